/-
  A formula's kid, told in parentheses or not: walked.
-/
import Derived.Test.YtjhicgllofjpoaaGreatDoorJr
import Derived.Test.YtjhicgllofjpoaaGreatDoorXB
import Derived.Deep.RegionLaw
import Derived.RegionTactic
import Derived.BigRegion
namespace Go.Proofs.YtjhicgllofjpoaaGreatDoor
open Go.RowKit Go.Sort

theorem FS.keepT {w w' : World} {e : TypeId} {S : Nat → Prop} (hk : ∀ (k : Nat) (cs : Array Value), w.heap[k]? = some (.cells cs e (0, 0)) → w'.heap[k]? = some (.cells cs e (0, 0))) : ∀ {x : Fo} {c : List Value}, FS w e S x c → FS w' e S x c
  | .leaf _ _ _, _, h => h
  | .un _ _ _, _, ⟨g, cap, ca, h1, ⟨a1, cs, a2, a3⟩, h3⟩ => ⟨g, cap, ca, h1, ⟨a1, cs, hk _ _ a2, a3⟩, FS.keepT hk h3⟩
  | .bin _ _ _ _, _, ⟨g, cap, ca, cb, h1, ⟨a1, cs, a2, a3⟩, h3, h4⟩ => ⟨g, cap, ca, cb, h1, ⟨a1, cs, hk _ _ a2, a3⟩, FS.keepT hk h3, FS.keepT hk h4⟩
theorem FS.text {B : Nat} {w w1 : World} {v : Value} {l : List UInt8} {S : Nat → Prop} {x : Fo} {c : List Value} (h : FS w 25 S x c) (ht : Txt B w v l) (hg : w.grownBy w1 v.ownBlock) : FS w1 25 S x c :=
  h.keepT fun k cs hk => ht.keep hg hk (by decide)
/-- A box of four cells. -/
def B4 (w : World) (b : Nat) (c0 c1 c2 c3 : Value) : Prop := Bx w b 25 [c0, c1, c2, c3]
section
variable {w w1 : World} {b : Nat} {c0 c1 c2 c3 : Value}
theorem bx4 (h : Bx w b 25 [c0, c1, c2, c3]) : B4 w b c0 c1 c2 c3 := h
theorem B4.c4 (h : B4 w b c0 c1 c2 c3) : w.cell? ⟨b, 0, none⟩ = some c0 ∧ w.cell? ⟨b, 1, none⟩ = some c1 ∧ w.cell? ⟨b, 2, none⟩ = some c2 ∧ w.cell? ⟨b, 3, none⟩ = some c3 := ⟨Bx.cell h 0, Bx.cell h 1, Bx.cell h 2, Bx.cell h 3⟩
theorem B4.lt (h : B4 w b c0 c1 c2 c3) : b < w.heap.size := Bx.lt h
theorem FBx.text {B : Nat} {v : Value} {l : List UInt8} (h : B4 w b c0 c1 c2 c3) (ht : Txt B w v l) (hg : w.grownBy w1 v.ownBlock) : B4 w1 b c0 c1 c2 c3 := ht.keep hg h (by decide)
theorem B4.below (h : B4 w b c0 c1 c2 c3) (hb : Below w.heap.size w w1) : B4 w1 b c0 c1 c2 c3 := Bx.below h hb
theorem B4.alloc (h : B4 w b c0 c1 c2 c3) (o : Obj) : B4 (w.alloc o) b c0 c1 c2 c3 := Bx.alloc h o
theorem B4.drew (h : B4 w b c0 c1 c2 c3) : B4 w.drew b c0 c1 c2 c3 := Bx.below h (Below.refl _ _).drew
end
/-- What tell tells of a formula. -/
def TCF (x : Fo) : Prop := ∀ (B : Nat) (w : World) (v : Value) (l : List UInt8) (S : Nat → Prop) (c : List Value), Txt B w v l → FS w 25 S x c → l.length + (tlF x).length ≤ 1000000 → Calls Tryz.prog 32 #[v, .agg c.toArray] w (TellP B l (tlF x) w v)
set_option maxHeartbeats 1000000 in
theorem fkid_plain {x : Fo} (ih : TCF x) {B : Nat} {w : World} {v : Value} {l : List UInt8} {S : Nat → Prop} {o nm : ByteArray} {p : Int} {A : Option Addr} {ll cap : Nat} (ht : Txt B w v l) (hH : FS w 25 S x (FV.c ⟨o, nm, A, ll, cap, p⟩)) (hl : l.length + (tlF x).length ≤ 1000000) (r : Nat) (hr : r ≤ pk x.op) :
    Calls Tryz.prog 58 #[v, .agg #[.string o, .string nm, .slice A ll cap, .int .i64 p], .int .i64 (r : Int)] w (TellP B l (tlF x) w v) := by
  have ho : o.data.toList = x.op := by rw [show o = ⟨x.op.toArray⟩ from hH.opn]
  have H1 := Lib.hid (prank_any o)
  unfold PkP at H1
  rw [ho] at H1
  have hba : Below w.heap.size w (w.alloc (.cells #[.string o, .string nm, .slice A ll cap, .int .i64 p] 25)) := (Below.refl _ _).alloc (Nat.le_refl _) _
  have H2 := Lib.hid (ih B _ v l S _ (ht.below hba) (hH.below hba) hl)
  have HBA := Lib.hid hba
  have g1 : decide ((r : Int) ≤ (pk x.op : Int)) = true := by simp; omega
  have g2 : decide (r ≤ pk x.op) = true := by simpa using hr
  clear ih ht hH hl hr ho hba
  go_enter Tryz.func58, Tryz.ntmps58
  go_wp2_with fail
  with_reducible refine (H1.out _).mono ?_
  rintro e w' ⟨rfl, rfl⟩
  go_wp2_with fail
  refine (H2.out).mono ?_
  rintro e w1 ⟨v', rfl, h1, h2, h3⟩
  have H3 := Lib.hid h1
  have H4 := Lib.hid h2
  have H5 := Lib.hid h3
  clear h1 h2 h3
  go_wp2
  go_ret
  exact ⟨v', rfl, H3.out, grow_trans (v1 := v) (grow_below HBA.out _) (Lies.refl _ _) H4.out, (Lies.refl w v).trans HBA.out.size H5.out⟩
set_option maxHeartbeats 4000000 in
set_option maxRecDepth 100000 in
theorem fkid_par {x : Fo} (ih : TCF x) {B : Nat} {w : World} {v : Value} {l : List UInt8} {S : Nat → Prop} {o nm : ByteArray} {p : Int} {A : Option Addr} {ll cap : Nat} (ht : Txt B w v l) (hH : FS w 25 S x (FV.c ⟨o, nm, A, ll, cap, p⟩)) (hl : l.length + 1 + (tlF x).length + 1 ≤ 1000000) (r : Nat) (hr : pk x.op < r) :
    Calls Tryz.prog 58 #[v, .agg #[.string o, .string nm, .slice A ll cap, .int .i64 p], .int .i64 (r : Int)] w (TellP B l (40 :: tlF x ++ [41]) w v) := by
  obtain ⟨i0, hi0, hz⟩ := Option.map_eq_some_iff.1 infoB
  simp only [Prod.mk.injEq] at hz
  obtain ⟨hz0, hz1, hz2⟩ := hz
  have HI := Lib.hid hi0
  have HZ0 := Lib.hid hz0
  have HZ1 := Lib.hid hz1
  have HZ2 := Lib.hid hz2
  have ho : o.data.toList = x.op := by rw [show o = ⟨x.op.toArray⟩ from hH.opn]
  have H1 := Lib.hid (prank_any o)
  unfold PkP at H1
  rw [ho] at H1
  have hba : Below w.heap.size w (w.alloc (.cells #[.string o, .string nm, .slice A ll cap, .int .i64 p] 25)) := (Below.refl _ _).alloc (Nat.le_refl _) _
  have hB0 := bx4 (Bx.new w 25 [.string o, .string nm, .slice A ll cap, .int .i64 p])
  have ht0 := ht.below hba
  have hH0 := hH.below hba
  have HBA := Lib.hid hba
  have HIH := Lib.hid ih
  have g1 : decide ((r : Int) ≤ (pk x.op : Int)) = false := by simp; omega
  have g2 : decide (r ≤ pk x.op) = false := by simp; omega
  clear ih ht hH hr ho hba hi0 hz0 hz1 hz2
  go_enter Tryz.func58, Tryz.ntmps58
  go_wp2_with fail
  with_reducible refine (H1.out _).mono ?_
  rintro e w' ⟨rfl, rfl⟩
  go_wp2_with fail
  generalize w.alloc (.cells #[.string o, .string nm, .slice A ll cap, .int .i64 p] 25) = W at *
  obtain ⟨b0, b1, b2, b3⟩ := hB0.c4
  have hbz := hB0.lt
  have HB0 := Lib.hid hB0
  have HT0 := Lib.hid ht0
  have HH0 := Lib.hid hH0
  clear hB0 ht0 hH0
  go_region_law (first
    | (refine step_byte (B := B) (l := l) (v := v) _ rfl (.tmp 15) (.tmp 16) rfl ?_ ?_ (W.heap.size) ?_ 40 ?_ ?_ ?_
       · simp [Act.eval]
       · exact ((HT0.out).alloc _).drew
       · simp [Act.eval]
       · exact heapA rfl _
       · omega
       intro g1 cap1 w1 ht1 hg1 hat1
       obtain ⟨b0, b1, b2, b3⟩ := (FBx.text (((HB0.out).alloc _).drew) (((HT0.out).alloc _).drew) hg1).c4
       have HH1 := Lib.hid (FS.text (((HH0.out).alloc _).drew) (((HT0.out).alloc _).drew) hg1)
       have HGA := Lib.hid (grow_trans (v1 := v) (grow_below ((HBA.out.alloc (Nat.le_of_lt hbz) _).drew) _) (Lies.refl _ _) hg1)
       have HLA := Lib.hid (show Lies w v (.slice (some ⟨g1, 0, none⟩) (l.length + 1) cap1) from lies_of ((HBA.out.alloc (Nat.le_of_lt hbz) _).drew).size hat1)
       have hz1 : w.heap.size < w1.heap.size := (FBx.text (((HB0.out).alloc _).drew) (((HT0.out).alloc _).drew) hg1).lt
       have hg1l : g1 < w1.heap.size := txt_lt ht1
       have HT1 := Lib.hid ht1
       clear ht1 hg1 hat1)
    | (refine step_byte (B := B) (l := l) (v := v) _ rfl (.tmp 15) (.tmp 16) rfl ?_ ?_ (W.heap.size) ?_ 40 ?_ ?_ ?_
       · simp [Act.eval]
       · exact (((HT0.out).alloc _).alloc _).drew
       · simp [Act.eval]
       · exact heapB rfl (.cells #[.int .u8 40] 5) (.cells #[.int .u8 41] 5)
       · omega
       intro g1 cap1 w1 ht1 hg1 hat1
       obtain ⟨b0, b1, b2, b3⟩ := (FBx.text ((((HB0.out).alloc _).alloc _).drew) ((((HT0.out).alloc _).alloc _).drew) hg1).c4
       have HH1 := Lib.hid (FS.text ((((HH0.out).alloc _).alloc _).drew) ((((HT0.out).alloc _).alloc _).drew) hg1)
       have HGA := Lib.hid (grow_trans (v1 := v) (grow_below (((HBA.out.alloc (Nat.le_of_lt hbz) _).alloc (by simp; omega) _).drew) _) (Lies.refl _ _) hg1)
       have HLA := Lib.hid (show Lies w v (.slice (some ⟨g1, 0, none⟩) (l.length + 1) cap1) from lies_of (((HBA.out.alloc (Nat.le_of_lt hbz) _).alloc (by simp; omega) _).drew).size hat1)
       have hz1 : w.heap.size < w1.heap.size := (FBx.text ((((HB0.out).alloc _).alloc _).drew) ((((HT0.out).alloc _).alloc _).drew) hg1).lt
       have hg1l : g1 < w1.heap.size := txt_lt ht1
       have H41 := Lib.hid (show w1.heap[W.heap.size + 1]? = some (.cells #[.int .u8 41] 5) from (hg1.block (W.heap.size + 1) (by first | (simp; done) | (simp; omega)) (own_ne HT0.out (by omega))).trans (heapA (by simp) _))
       have HNE := Lib.hid (show W.heap.size + 1 ≠ g1 from kne HT0.out hat1 (by first | (simp; done) | (simp; omega)) (by omega))
       have HT1 := Lib.hid ht1
       clear ht1 hg1 hat1)
    | (refine step_byte (B := B) (l := l) (v := v) _ rfl (.tmp 15) (.tmp 16) rfl ?_ ?_ (W.heap.size + 1) ?_ 40 ?_ ?_ ?_
       · simp [Act.eval]
       · exact (((HT0.out).alloc _).alloc _).drew
       · simp [Act.eval]
       · exact heapA (by simp) _
       · omega
       intro g1 cap1 w1 ht1 hg1 hat1
       obtain ⟨b0, b1, b2, b3⟩ := (FBx.text ((((HB0.out).alloc _).alloc _).drew) ((((HT0.out).alloc _).alloc _).drew) hg1).c4
       have HH1 := Lib.hid (FS.text ((((HH0.out).alloc _).alloc _).drew) ((((HT0.out).alloc _).alloc _).drew) hg1)
       have HGA := Lib.hid (grow_trans (v1 := v) (grow_below (((HBA.out.alloc (Nat.le_of_lt hbz) _).alloc (by simp; omega) _).drew) _) (Lies.refl _ _) hg1)
       have HLA := Lib.hid (show Lies w v (.slice (some ⟨g1, 0, none⟩) (l.length + 1) cap1) from lies_of (((HBA.out.alloc (Nat.le_of_lt hbz) _).alloc (by simp; omega) _).drew).size hat1)
       have hz1 : w.heap.size < w1.heap.size := (FBx.text ((((HB0.out).alloc _).alloc _).drew) ((((HT0.out).alloc _).alloc _).drew) hg1).lt
       have hg1l : g1 < w1.heap.size := txt_lt ht1
       have H41 := Lib.hid (show w1.heap[W.heap.size]? = some (.cells #[.int .u8 41] 5) from (hg1.block (W.heap.size) (by first | (simp; done) | (simp; omega)) (own_ne HT0.out (by omega))).trans (heapB rfl (.cells #[.int .u8 41] 5) (.cells #[.int .u8 40] 5)))
       have HNE := Lib.hid (show W.heap.size ≠ g1 from kne HT0.out hat1 (by first | (simp; done) | (simp; omega)) (by omega))
       have HT1 := Lib.hid ht1
       clear ht1 hg1 hat1)
    | (go_simp
       go_at_call 32
       refine (HIH.out B w1 _ _ _ (FV.c ⟨o, nm, A, ll, cap, p⟩) HT1.out HH1.out (by simp; omega)).mono ?_
       rintro e w2 ⟨v2, rfl, ht2, hg2, hl2⟩
       have HT2 := Lib.hid ht2
       have HGB := Lib.hid (grow_trans HGA.out HLA.out hg2)
       have HLB := Lib.hid (Lies.trans HLA.out HGA.out.size hl2)
       have hz2 : w.heap.size < w2.heap.size := by have := hg2.size; omega
       (try have H42 := Lib.hid ((hg2.block _ (blk_lt H41.out) (slice_ne HNE.out)).trans H41.out))
       clear ht2 hg2 hl2)
    | (go_simp
       go_at_call 32
       refine (HIH.out B (w1.alloc (.cells #[.int .u8 41] 5)) _ _ _ (FV.c ⟨o, nm, A, ll, cap, p⟩) (HT1.out.alloc _) (HH1.out.alloc _) (by simp; omega)).mono ?_
       rintro e w2 ⟨v2, rfl, ht2, hg2, hl2⟩
       have HT2 := Lib.hid ht2
       have HG1' := Lib.hid (grow_trans HGA.out HLA.out (grow_below ((Below.refl _ _).alloc (Nat.le_refl _) (.cells #[.int .u8 41] 5)) _))
       have HGB := Lib.hid (grow_trans HG1'.out HLA.out hg2)
       have HLB := Lib.hid (Lies.trans HLA.out HG1'.out.size hl2)
       have hz2 : w.heap.size < w2.heap.size := by have := hg2.size; simp at this; omega
       have H42 := Lib.hid (show w2.heap[w1.heap.size]? = some (.cells #[.int .u8 41] 5) from (hg2.block w1.heap.size (by simp) (slice_ne (by omega))).trans (heapN rfl _))
       clear ht2 hg2 hl2)
    | (refine step_byte (B := B) (l := l ++ [40] ++ tlF x) (v := v2) _ rfl (.tmp 19) (.tmp 20) rfl ?_ ?_ (W.heap.size) ?_ 41 ?_ ?_ ?_
       · simp [Act.eval]
       · exact HT2.out
       · simp [Act.eval]
       · exact H42.out
       · (simp; omega)
       intro g3 cap3 w3 ht3 hg3 hat3
       have HT3 := Lib.hid ht3
       have HGC := Lib.hid (grow_trans HGB.out HLB.out hg3)
       have HLC := Lib.hid (show Lies w v (.slice (some ⟨g3, 0, none⟩) ((l ++ [40] ++ tlF x).length + 1) cap3) from Lies.trans HLB.out HGB.out.size (lies_of (Nat.le_refl _) hat3))
       clear ht3 hg3 hat3)
    | (refine step_byte (B := B) (l := l ++ [40] ++ tlF x) (v := v2) _ rfl (.tmp 19) (.tmp 20) rfl ?_ ?_ (W.heap.size + 1) ?_ 41 ?_ ?_ ?_
       · simp [Act.eval]
       · exact HT2.out
       · simp [Act.eval]
       · exact H42.out
       · (simp; omega)
       intro g3 cap3 w3 ht3 hg3 hat3
       have HT3 := Lib.hid ht3
       have HGC := Lib.hid (grow_trans HGB.out HLB.out hg3)
       have HLC := Lib.hid (show Lies w v (.slice (some ⟨g3, 0, none⟩) ((l ++ [40] ++ tlF x).length + 1) cap3) from Lies.trans HLB.out HGB.out.size (lies_of (Nat.le_refl _) hat3))
       clear ht3 hg3 hat3)
    | (refine step_byte (B := B) (l := l ++ [40] ++ tlF x) (v := v2) _ rfl (.tmp 19) (.tmp 20) rfl ?_ ?_ (w1.heap.size) ?_ 41 ?_ ?_ ?_
       · simp [Act.eval]
       · exact HT2.out
       · simp [Act.eval]
       · exact H42.out
       · (simp; omega)
       intro g3 cap3 w3 ht3 hg3 hat3
       have HT3 := Lib.hid ht3
       have HGC := Lib.hid (grow_trans HGB.out HLB.out hg3)
       have HLC := Lib.hid (show Lies w v (.slice (some ⟨g3, 0, none⟩) ((l ++ [40] ++ tlF x).length + 1) cap3) from Lies.trans HLB.out HGB.out.size (lies_of (Nat.le_refl _) hat3))
       clear ht3 hg3 hat3)
    | (refine step_byte (B := B) (l := l ++ [40] ++ tlF x) (v := v2) _ rfl (.tmp 19) (.tmp 20) rfl ?_ ?_ (w2.heap.size) ?_ 41 ?_ ?_ ?_
       · simp [Act.eval]
       · exact HT2.out.alloc _
       · simp [Act.eval]
       · exact heapN rfl _
       · (simp; omega)
       intro g3 cap3 w3 ht3 hg3 hat3
       have HT3 := Lib.hid ht3
       have HGC := Lib.hid (grow_trans (grow_trans HGB.out HLB.out (grow_below ((Below.refl _ _).alloc (Nat.le_refl _) (.cells #[.int .u8 41] 5)) _)) HLB.out hg3)
       have HLC := Lib.hid (show Lies w v (.slice (some ⟨g3, 0, none⟩) ((l ++ [40] ++ tlF x).length + 1) cap3) from Lies.trans HLB.out HGB.out.size (lies_of (by simp) hat3))
       clear ht3 hg3 hat3))
  all_goals
    go_wp2
    go_ret
    refine ⟨_, rfl, ?_, HGC.out, HLC.out⟩
    have e1 : l ++ (40 :: (tlF x ++ [41])) = l ++ [40] ++ tlF x ++ [41] := by simp
    rw [e1]
    exact txt_len HT3.out (by simp)
end Go.Proofs.YtjhicgllofjpoaaGreatDoor
