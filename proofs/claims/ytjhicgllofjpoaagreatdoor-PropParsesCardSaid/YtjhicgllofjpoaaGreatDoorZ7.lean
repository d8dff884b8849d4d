/-
  How the document tells a formula: walked.
-/
import Derived.Test.YtjhicgllofjpoaaGreatDoorZ5
import Derived.Test.YtjhicgllofjpoaaGreatDoorZA
import Derived.Deep.AppendLies
namespace Go.Proofs.YtjhicgllofjpoaaGreatDoor
open Go.RowKit Go.Sort

def PrCF (x : Fo) : Prop := ∀ (w : World) (S : Nat → Prop) (c : List Value), FS w 32 S x c → (tlF x).length ≤ 1000000 → Calls Tryz.prog 14 #[.agg c.toArray] w (StP (tlF x) w)
theorem infoS : (Tryz.prog.info? 9).map (fun i => (i.zero, i.size, i.bytes)) = some (some (.string ⟨#[]⟩), 1, 16) := by kernel_rfl
theorem own_formP {w : World} {base size n : Nat} {e : TypeId} {v : Value} {xs : List Value} (h : w.ownsRow base e size v n xs) : ∃ A cap, v = .slice A n cap := by
  rcases h.2 with ⟨h1, h2⟩ | ⟨g, cap, cur, h1, _⟩
  · exact ⟨none, 0, by rw [h1, h2]⟩
  · exact ⟨_, _, h1⟩
theorem own_atP {w : World} {base n : Nat} {A : Option Addr} {cap : Nat} {xs : List Value} (h : w.ownsRow base 9 1 (.slice A n cap) n xs) (h0 : 0 < n) : ∃ g, A = some ⟨g, 0, none⟩ ∧ g < w.heap.size ∧ ∀ i u, xs[i]? = some u → w.cell? ⟨g, i, none⟩ = some u := by
  rcases h.2 with ⟨_, h2⟩ | ⟨g, cap', cur, h1, _, hb, _⟩
  · omega
  · simp only [Value.slice.injEq] at h1
    obtain ⟨rfl, _, rfl⟩ := h1
    refine ⟨g, rfl, blk_lt hb, fun i u hu => ?_⟩
    have h3 := h.cells (g := g) rfl i u hu
    have e : ∀ m, (⟨g, 0, none⟩ : Addr).add m = ⟨g, m, none⟩ := fun m => by
      unfold Addr.add
      by_cases h0 : m = 0 <;> simp [h0]
    rw [e] at h3
    exact h3
theorem cell_addP {w : World} {q : Nat} {t : TypeId} {cs : List Value} (h : Bx w q t cs) {j : Nat} {u : Value} (hj : cs[j]? = some u) : w.cell? ((⟨q, 0, none⟩ : Addr).add j) = some u := by
  have e : (⟨q, 0, none⟩ : Addr).add j = ⟨q, j, none⟩ := by
    unfold Addr.add
    by_cases h0 : j = 0 <;> simp [h0]
  rw [e, h.cell, hj]
theorem owns_belowP {w w' : World} {lo : Nat} {e : TypeId} {sz n : Nat} {v : Value} {cs : List Value} (h : w.ownsRow lo e sz v n cs) (hb : Below w.heap.size w w') : w'.ownsRow lo e sz v n cs := by
  refine ⟨h.1, ?_⟩
  rcases h.2 with h | ⟨g, cap, cur, h1, h2, h3, h4⟩
  · exact .inl h
  · exact .inr ⟨g, cap, cur, h1, h2, (hb.block g (blk_lt h3)).trans h3, h4⟩
theorem own_neP {w : World} {lo k : Nat} {e : TypeId} {sz n : Nat} {v : Value} {cs : List Value} (h : w.ownsRow lo e sz v n cs) (hk : k < lo) : some k ≠ v.ownBlock := by
  intro e1
  have := (h.lt k e1.symm).1
  omega
theorem own_mono {w : World} {b : Nat} {t : TypeId} {sz n : Nat} {v : Value} {cs : List Value} (h : w.ownsRow (b + 1) t sz v n cs) : w.ownsRow b t sz v n cs :=
  ⟨h.1, h.2.imp id fun ⟨g, cap, cur, h1, h2, h3⟩ => ⟨g, cap, cur, h1, by omega, h3⟩⟩
theorem grown_belowP {lo : Nat} {w wA w' : World} {v : Value} {n : Nat} {cs : List Value} {ob : Obj} (h : wA.ownsRow lo 9 1 v n cs) (hb : Below lo w wA) (hz : lo ≤ wA.heap.size) (hg : (wA.alloc ob).grownBy w' v.ownBlock) : Below lo w w' :=
  ⟨hg.os.trans hb.os, hg.tape.trans hb.tape, hg.output.trans hb.output, Nat.le_trans hb.size (Nat.le_trans (by simp) hg.size), fun k hk => (hg.block k (by simp; omega) (own_neP h hk)).trans ((Below.heap_alloc wA ob k (by omega)).trans (hb.block k hk))⟩
theorem FK.typ {w w' : World} {S : Nat → Prop} {A : Option Addr} {ks : List Fo} (h : FK w 32 S A ks) {lo : Nat} {l : Value} {n : Nat} {cs : List Value} {ob : Obj} (hO : w.ownsRow lo 9 1 l n cs) (hA : ∀ g, A = some ⟨g, 0, none⟩ → ks ≠ [] → ∃ cs : Array Value, w.heap[g]? = some (.cells cs 32 (0, 0))) (hg : (w.alloc ob).grownBy w' l.ownBlock) : FK w' 32 S A ks := by
  have hne : ∀ (k : Nat) (cs : Array Value), w.heap[k]? = some (Obj.cells cs 32 (0, 0)) → w'.heap[k]? = w.heap[k]? := fun k cs hk => by
    refine (hg.block k (by have := blk_lt hk; simp; omega) (fun e => ?_)).trans (Below.heap_alloc w ob k (blk_lt hk))
    rcases hO.2 with ⟨hx, _⟩ | ⟨g, cp, cur, hx, _, h2, _⟩
    · rw [hx] at e; cases e
    · rw [hx] at e
      have e : k = g := by simpa [Value.ownBlock] using e
      subst e
      rw [hk] at h2
      injection h2 with h2
      injection h2 with _ h2
      exact absurd h2 (by decide)
  intro i hi
  obtain ⟨g, v, h1, h2, h3, c0, c1, c2, c3⟩ := h i hi
  obtain ⟨cs', hc⟩ := hA g h1 (by intro e; rw [e] at hi; cases hi)
  have hb := hne g cs' hc
  have hcell : ∀ j, w'.cell? ⟨g, j, none⟩ = w.cell? ⟨g, j, none⟩ := fun j => World.cell?_of_block (w := w) hb
  exact ⟨g, v, h1, Nat.lt_of_lt_of_le h2 (Nat.le_trans (by simp) hg.size), h3.keepY (fun k cs _ hk => hne k cs hk), (hcell _).trans c0, (hcell _).trans c1, (hcell _).trans c2, (hcell _).trans c3⟩
/-- A row's block bears its type. -/
def TyF (w : World) (A : Option Addr) (ks : List Fo) : Prop := ∀ g, A = some ⟨g, 0, none⟩ → ks ≠ [] → ∃ cs : Array Value, w.heap[g]? = some (.cells cs 32 (0, 0))
theorem TyF.below {w w' : World} {A : Option Addr} {ks : List Fo} (h : TyF w A ks) (hb : Below w.heap.size w w') : TyF w' A ks := fun g h1 h2 => by
  obtain ⟨cs, hc⟩ := h g h1 h2
  exact ⟨cs, (hb.block g (blk_lt hc)).trans hc⟩
theorem FS.ty {w : World} {S : Nat → Prop} : ∀ {x : Fo} {v : FV}, FS w 32 S x v.c → TyF w v.A x.kids
  | .leaf _ _ _, v, h => fun g _ h2 => absurd rfl h2
  | .un _ _ _, v, ⟨g, cap, ca, h1, ⟨_, cs, h2, _⟩, _⟩ => fun g' hg _ => by
    simp only [FV.c, List.cons.injEq, Value.slice.injEq] at h1
    rw [h1.2.2.1.1] at hg
    injection hg with hg
    injection hg with hg
    subst hg
    exact ⟨cs, h2⟩
  | .bin _ _ _ _, v, ⟨g, cap, ca, cb, h1, ⟨_, cs, h2, _⟩, _⟩ => fun g' hg _ => by
    simp only [FV.c, List.cons.injEq, Value.slice.injEq] at h1
    rw [h1.2.2.1.1] at hg
    injection hg with hg
    injection hg with hg
    subst hg
    exact ⟨cs, h2⟩
theorem TyF.grown {w w' : World} {A : Option Addr} {ks : List Fo} (h : TyF w A ks) {lo : Nat} {l : Value} {n : Nat} {cs : List Value} {ob : Obj} (hO : w.ownsRow lo 9 1 l n cs) (hg : (w.alloc ob).grownBy w' l.ownBlock) : TyF w' A ks := fun g h1 h2 => by
  obtain ⟨cs', hk⟩ := h g h1 h2
  refine ⟨cs', (hg.block g (by have := blk_lt hk; simp; omega) (fun e => ?_)).trans ((Below.heap_alloc w ob g (blk_lt hk)).trans hk)⟩
  rcases hO.2 with ⟨hx, _⟩ | ⟨g', cp, cur, hx, _, h2, _⟩
  · rw [hx] at e; cases e
  · rw [hx] at e
    have e : g = g' := by simpa [Value.ownBlock] using e
    subst e
    rw [hk] at h2
    injection h2 with h2
    injection h2 with _ h2
    exact absurd h2 (by decide)
/-- What the rounds over the kids keep. -/
def PrRelF (ts : List (List UInt8)) (ks : List Fo) (S : Nat → Prop) (w : World) (A : Option Addr) (cap : Nat) (o nm : ByteArray) (p : Int) (l i : Value) (wr : World) : Prop :=
  ∃ k : Nat, i = .int .i64 (k : Int) ∧ k ≤ ks.length ∧ wr.ownsRow (w.heap.size + 1) 9 1 l k ((ts.take k).map strV) ∧ Bx wr w.heap.size 32 [.string o, .string nm, .slice A ks.length cap, .int .i64 p] ∧ FK wr 32 S A ks ∧ TyF wr A ks ∧ Below w.heap.size w wr
theorem pr_stepF {ts : List (List UInt8)} {ks : List Fo} {S : Nat → Prop} {w wA w' : World} {A : Option Addr} {cap : Nat} {o nm : ByteArray} {p : Int} {k : Nat} {l l' : Value} {t : ByteArray} {z : Int} (hz : z = (k : Int) + 1) (hk : k < ks.length) (ht : ∃ h : k < ts.length, t.data.toList = ts[k])
    (hO : wA.ownsRow (w.heap.size + 1) 9 1 l k ((ts.take k).map strV)) (hB : Bx wA w.heap.size 32 [.string o, .string nm, .slice A ks.length cap, .int .i64 p]) (hK : FK wA 32 S A ks) (hw : Below w.heap.size w wA) (hTy : TyF wA A ks)
    (hO' : w'.ownsRow (w.heap.size + 1) 9 1 l' (k + 1) ((ts.take k).map strV ++ [.string t])) (hg : (wA.alloc (.cells #[.string t] 9)).grownBy w' l.ownBlock) : PrRelF ts ks S w A cap o nm p l' (.int .i64 z) w' := by
  subst hz
  obtain ⟨h, ht⟩ := ht
  have hlB := hB.lt
  refine ⟨k + 1, by go_num, hk, ?_, ?_, hK.typ hO hTy hg, hTy.grown hO hg, grown_belowP (own_mono hO) hw hw.size hg⟩
  · rw [List.take_succ_eq_append_getElem h, List.map_append, List.map_singleton, ← ht, show strV t.data.toList = .string t from (strV_eq rfl).symm]
    exact hO'
  · exact (hg.block _ (by simp; omega) (own_neP hO (by omega))).trans ((Below.heap_alloc wA _ _ hlB).trans hB)

set_option maxHeartbeats 1000000 in
theorem rfprint_lab {nm : List UInt8} {q : Nat} : PrCF (.leaf opLab nm q) := by
  intro w S c hH hl
  have hc : c = [strV opLab, strV nm, .slice none 0 0, .int .i64 (q : Int)] := hH
  subst hc
  have hll : nm.length + 2 ≤ 1000000 := by rw [tlF, if_pos rfl] at hl; simp at hl; omega
  obtain ⟨tn, htn, htn2⟩ := str_ofF nm 1000000 (by omega)
  change Calls Tryz.prog 14 #[.agg #[.string ⟨#[108, 97, 98, 101, 108]⟩, .string ⟨nm.toArray⟩, .slice none 0 0, .int .i64 (q : Int)]] w _
  have e : (⟨nm.toArray⟩ : ByteArray) = tn := by rw [← htn]
  rw [e]
  have HTN := Lib.hid htn
  have HK := Lib.hid (fun W : World => rfrank_any ⟨#[108, 97, 98, 101, 108]⟩ W)
  have g1 : ((⟨#[108, 97, 98, 101, 108]⟩ : ByteArray).toList == [108, 97, 98, 101, 108]) = true := by rw [ByteArray.toList_eq]; rfl
  have k0 : ¬ 9223372036854775807 < 1 + tn.size := by omega
  have k1 : ¬ 9223372036854775807 < 1 + tn.size + 1 := by omega
  clear hH hl hll htn e
  go_enter Tryz.func14, Tryz.ntmps14
  go_wp2_with fail
  refine (HK.out _).mono ?_
  rintro e w1 ⟨rfl, rfl⟩
  go_wp2
  go_ret
  exact ⟨ret_strF (by rw [tlF, if_pos rfl]; simp [HTN.out]), (Below.refl _ _).alloc (Nat.le_refl _) _⟩
set_option maxHeartbeats 1000000 in
theorem rfprint_word {op : List UInt8} {q : Nat} (ho : op = opTrue ∨ op = opFalse) : PrCF (.leaf op [] q) := by
  intro w S c hH hl
  have hc : c = [strV op, strV [], .slice none 0 0, .int .i64 (q : Int)] := hH
  subst hc
  have hne : op ≠ opLab := by rcases ho with rfl | rfl <;> decide
  have h5 : pk op = 5 := by rcases ho with rfl | rfl <;> decide
  change Calls Tryz.prog 14 #[.agg #[.string ⟨op.toArray⟩, .string ⟨#[]⟩, .slice none 0 0, .int .i64 (q : Int)]] w _
  have HK := Lib.hid (fun W : World => rfrank_any ⟨op.toArray⟩ W)
  unfold PkP at HK
  rw [show (⟨op.toArray⟩ : ByteArray).data.toList = op from rfl, h5] at HK
  have g1 : ((⟨op.toArray⟩ : ByteArray).toList == [108, 97, 98, 101, 108]) = false := by rw [ByteArray.toList_eq]; exact beq_eq_false_iff_ne.2 hne
  have HE := Lib.hid (show tlF (.leaf op [] q) = op by rw [tlF, if_neg hne])
  clear hH hl ho hne h5
  obtain ⟨o, hoo⟩ : ∃ o : ByteArray, o = ⟨op.toArray⟩ := ⟨_, rfl⟩
  rw [← hoo] at HK g1 ⊢
  have HO := Lib.hid (show o.data.toList = op by rw [hoo])
  clear hoo
  go_enter Tryz.func14, Tryz.ntmps14
  go_wp2_with fail
  refine (HK.out _).mono ?_
  rintro e w1 ⟨rfl, rfl⟩
  go_wp2
  go_ret
  exact ⟨ret_strF (by rw [HE.out]; exact HO.out), (Below.refl _ _).alloc (Nat.le_refl _) _⟩

theorem parf_lenZ (b : Bool) (l : List UInt8) : l.length ≤ (parX b l).length ∧ (parX b l).length ≤ l.length + 2 := by
  unfold parX
  cases b <;> simp <;> omega

set_option maxHeartbeats 8000000 in
set_option maxRecDepth 100000 in
theorem rfprint_not {op : List UInt8} {a : Fo} {q : Nat} (hr : pk op = 4) (hnot : op = [33]) (ha : PrCF a) : PrCF (.un op a q) := by
  intro w S c hH hl
  have hty0 : ∀ A cap, c = FV.c ⟨⟨op.toArray⟩, ⟨#[]⟩, A, 1, cap, (q : Int)⟩ → TyF w A [a] := fun A cap hc => by subst hc; exact FS.ty (x := .un op a q) hH
  obtain ⟨A, cap, hc, hk⟩ := hH.view
  have hc : c = FV.c ⟨⟨op.toArray⟩, ⟨#[]⟩, A, 1, cap, (q : Int)⟩ := hc
  have hty := hty0 A cap hc
  subst hc
  have hk : FK w 32 S A [a] := hk
  obtain ⟨i0, hi0, hz⟩ := Option.map_eq_some_iff.1 infoS
  simp only [Prod.mk.injEq] at hz
  obtain ⟨hz0, hz1, hz2⟩ := hz
  have HI := Lib.hid hi0
  have HZ0 := Lib.hid hz0
  have HZ1 := Lib.hid hz1
  have HZ2 := Lib.hid hz2
  have htl : tlF (.un op a q) = [33] ++ ([] ++ parX (decide (pk a.op < 4)) (tlF a)) := by rw [tlF, hr, if_pos hnot, hnot]
  rw [htl] at hl
  simp only [List.length_append, List.length_cons, List.length_nil] at hl
  obtain ⟨ts, hts⟩ : ∃ ts : List (List UInt8), ts = [parX (decide (pk a.op < 4)) (tlF a)] := ⟨_, rfl⟩
  have hpa := parf_lenZ (decide (pk a.op < 4)) (tlF a)
  obtain ⟨ta, hta, hta2⟩ := str_ofF (tlF a) 1000000 (by omega)
  obtain ⟨pa, hpa1, hpa2⟩ := str_ofF (parX (decide (pk a.op < 4)) (tlF a)) 1000000 (by omega)
  have HTa := Lib.hid hta
  have HPa := Lib.hid hpa1
  have HLa := Lib.hid (show (tlF a).length ≤ 1000000 by omega)
  have hsa : ta.size ≤ 1000000 := hta2
  have hqa : pa.size ≤ 1000000 := hpa2
  have HTL := Lib.hid htl
  have HTS := Lib.hid hts
  change Calls Tryz.prog 14 #[.agg #[.string ⟨op.toArray⟩, .string ⟨#[]⟩, .slice A 1 cap, .int .i64 (q : Int)]] w _
  have HK := Lib.hid (fun W : World => rfrank_any ⟨op.toArray⟩ W)
  unfold PkP at HK
  rw [show (⟨op.toArray⟩ : ByteArray).data.toList = op from rfl, hr] at HK
  have hne : op ≠ opLab := by intro e; rw [e] at hr; exact absurd hr (by decide)
  have g1 : ((⟨op.toArray⟩ : ByteArray).toList == [108, 97, 98, 101, 108]) = false := by rw [ByteArray.toList_eq]; exact beq_eq_false_iff_ne.2 hne
  have g3 : ((⟨op.toArray⟩ : ByteArray).toList == [33]) = true := by rw [ByteArray.toList_eq, hnot]; rfl
  have hos : op.length ≤ 1000000 := by rw [hnot]; simp
  have HKD : Hid (FK w 32 S A [a]) := Lib.hid hk
  have HTY := Lib.hid hty
  have HIH := Lib.hid (show PrCF a from ha)
  have hba := (Below.refl w.heap.size w).alloc (Nat.le_refl _) (.cells #[.string ⟨op.toArray⟩, .string ⟨#[]⟩, .slice A 1 cap, .int .i64 (q : Int)] 32)
  have HR0 := Lib.hid (show PrRelF ts [a] S w A cap ⟨op.toArray⟩ ⟨#[]⟩ (q : Int) (.slice none 0 0) (.int .i64 0) (w.alloc (.cells #[.string ⟨op.toArray⟩, .string ⟨#[]⟩, .slice A 1 cap, .int .i64 (q : Int)] 32)) from
    ⟨0, rfl, Nat.zero_le _, World.ownsRow_nil _ _ _ _, Bx.new w 32 [_, _, _, _], hk.below hba, hty.below hba, hba⟩)
  obtain ⟨o, hoo⟩ : ∃ o : ByteArray, o = ⟨op.toArray⟩ := ⟨_, rfl⟩
  rw [← hoo] at HK g1 HR0 g3 ⊢
  have HO := Lib.hid (show o.data.toList = op by rw [hoo])
  have hosz : o.size ≤ 1000000 := by rw [hoo, ← size_listR]; exact hos
  clear hi0 hz0 hz1 hz2 hH hty0 hty hk htl hts hne hos hba hoo hl hr ha hta hpa1 hpa hnot
  go_enter Tryz.func14, Tryz.ntmps14
  go_wp2_with fail
  refine (HK.out _).mono ?_
  rintro e w1 ⟨rfl, rfl⟩
  go_wp2
  go_loopw [4, 5] (fun l i wr => PrRelF ts [a] S w A cap o ⟨#[]⟩ (q : Int) l i wr) (fun _ i _ => 1 - (intOf i).toNat)
  case atStart => exact HR0.out
  case round =>
    clear HR0
    obtain ⟨k, rfl, hk, hO, hB, hK, hTy, hw⟩ := hrel
    obtain ⟨A1, cap1, rfl⟩ := own_formP hO
    obtain ⟨b0, b1, b2, b3⟩ := Bx.cells4 hB
    have hbl := hB.lt
    have b2 : wr.cell? ⟨w.heap.size, 2, none⟩ = some (.slice A 1 cap) := b2
    have hk : k ≤ 1 := hk
    have hcase : k = 0 ∨ k = 1 := by omega
    rcases hcase with rfl | rfl
    · obtain ⟨g, ⟨o', nm', P', l', cp', p'⟩, hA0, hg', hH', a0, a1, a2, a3⟩ := hK 0 (by simp)
      have hA0 : A = some ⟨g, 0, none⟩ := hA0
      subst hA0
      have H := Lib.hid (HIH.out wr _ _ hH' HLa.out)
      have ho' : o' = ⟨a.op.toArray⟩ := FS.opn hH'
      have HRK := Lib.hid (fun W : World => rfrank_any o' W)
      unfold PkP at HRK
      rw [show o'.data.toList = a.op by rw [ho']] at HRK
      have HO := Lib.hid hO
      have HB := Lib.hid hB
      have HKK := Lib.hid hK
      have HTY2 := Lib.hid hTy
      have HW := Lib.hid hw
      clear hO hB hK hTy hw hH' ho'
      go_wp2_with fail
      refine (H.out).mono ?_
      rintro e w2 ⟨rfl, hb2⟩
      rw [← strV_eq HTa.out]
      have HO2 := Lib.hid (owns_belowP HO.out hb2)
      have hB2 := HB.out.below hb2
      have HB2 := Lib.hid hB2
      have hK2 := HKK.out.below hb2
      have HK2 := Lib.hid hK2
      have HTY3 := Lib.hid (HTY2.out.below hb2)
      have HW2 := Lib.hid (HW.out.trans (hb2.mono HW.out.size))
      obtain ⟨b0, b1, b2, b3⟩ := Bx.cells4 hB2
      have b2 : w2.cell? ⟨w.heap.size, 2, none⟩ = some (.slice (some ⟨g, 0, none⟩) 1 cap) := b2
      have hbl2 := hB2.lt
      have a0' := (hb2.cell (p := ⟨g, 0 * 4, none⟩) hg').trans a0
      have hg2 : g < w2.heap.size := Nat.lt_of_lt_of_le hg' hb2.size
      have hz2' := HW2.out.size
      simp only [Nat.zero_mul] at a0'
      clear hb2 hB2 hK2 HO HB HKK HTY2 HW H
      go_wp2_with fail
      refine (HRK.out _).mono ?_
      rintro e w3 ⟨rfl, rfl⟩
      have k0 : ¬ 9223372036854775807 < 1 + ta.size := by omega
      have k1 : ¬ 9223372036854775807 < 1 + ta.size + 1 := by omega
      cases hbb : decide (pk a.op < 4) with
      | true =>
        have c1 : decide ((pk a.op : Int) < (4 : Int)) = true := by
          rw [decide_eq_true_iff]
          have := of_decide_eq_true hbb
          omega
        have HPE := Lib.hid (show (⟨#[40]⟩ ++ ta ++ ⟨#[41]⟩ : ByteArray) = pa by
          have := HPa.out
          rw [hbb] at this
          apply ByteArray.ext
          apply Array.toList_inj.1
          rw [this]
          simp [parX, HTa.out])
        clear hbb
        go_wp2_with (at_builtin; refine wpList_append_lies _ rfl _ _ 42 rfl (w.heap.size + 1) 9 i0 (.string ⟨#[]⟩) 1 16 Tryz.underlying42 HI.out HZ0.out HZ1.out HZ2.out rfl (by decide) _ _ _ rfl (owns_belowP HO2.out ((Below.refl w2.heap.size w2).alloc (Nat.le_refl _) (.cells #[.string (⟨#[40]⟩ ++ ta ++ ⟨#[41]⟩)] 9))) ⟨w2.heap.size, 0, none⟩ 1 1 [.string (⟨#[40]⟩ ++ ta ++ ⟨#[41]⟩)] rfl rfl ?c1 ?c2 (by omega) ?c3 ?c4 ?c5 (w2.heap.size + 1) (by simp) ?_)
        case c1 => intro j u hj; exact cell_addP (Bx.new w2 9 [.string (⟨#[40]⟩ ++ ta ++ ⟨#[41]⟩)]) hj
        case c2 => intro u hu; simp only [List.mem_cons, List.not_mem_nil, or_false] at hu; subst hu; rfl
        case c3 => unfold maxLen; omega
        case c4 => omega
        case c5 => simp; omega
        intro g2 cap2 w4 hown4 hgrow4 hat4 hlt4
        rw [HPE.out] at hown4 hgrow4
        have HR4 := Lib.hid (pr_stepF (k := 0) (z := 0 + 1) (t := pa) (by simp) (by simp) (by rw [HTS.out]; exact ⟨by simp, HPa.out⟩) HO2.out HB2.out HK2.out HW2.out HTY3.out hown4 hgrow4)
        clear hown4 hgrow4 hat4
        go_wp2
        go_roundw
        case rel => exact HR4.out
        case measure => simp [intOf]
      | false =>
        have c1 : decide ((pk a.op : Int) < (4 : Int)) = false := by
          rw [decide_eq_false_iff_not]
          have := of_decide_eq_false hbb
          omega
        have HPE := Lib.hid (show ta = pa by
          have := HPa.out
          rw [hbb] at this
          apply ByteArray.ext
          apply Array.toList_inj.1
          rw [this]
          simp [parX, HTa.out])
        clear hbb
        go_wp2_with (at_builtin; refine wpList_append_lies _ rfl _ _ 42 rfl (w.heap.size + 1) 9 i0 (.string ⟨#[]⟩) 1 16 Tryz.underlying42 HI.out HZ0.out HZ1.out HZ2.out rfl (by decide) _ _ _ rfl (owns_belowP HO2.out ((Below.refl w2.heap.size w2).alloc (Nat.le_refl _) (.cells #[.string ta] 9))) ⟨w2.heap.size, 0, none⟩ 1 1 [.string ta] rfl rfl ?c1 ?c2 (by omega) ?c3 ?c4 ?c5 (w2.heap.size + 1) (by simp) ?_)
        case c1 => intro j u hj; exact cell_addP (Bx.new w2 9 [.string ta]) hj
        case c2 => intro u hu; simp only [List.mem_cons, List.not_mem_nil, or_false] at hu; subst hu; rfl
        case c3 => unfold maxLen; omega
        case c4 => omega
        case c5 => simp; omega
        intro g2 cap2 w4 hown4 hgrow4 hat4 hlt4
        rw [HPE.out] at hown4 hgrow4
        have HR4 := Lib.hid (pr_stepF (k := 0) (z := 0 + 1) (t := pa) (by simp) (by simp) (by rw [HTS.out]; exact ⟨by simp, HPa.out⟩) HO2.out HB2.out HK2.out HW2.out HTY3.out hown4 hgrow4)
        clear hown4 hgrow4 hat4
        go_wp2
        go_roundw
        case rel => exact HR4.out
        case measure => simp [intOf]
    · obtain ⟨g9, hA1, hlg, hcell⟩ := own_atP hO (by decide)
      have hA1' := hA1
      subst hA1
      have q0 := hcell 0 (.string pa) (by rw [HTS.out, strV_eq HPa.out]; rfl)
      have HW := Lib.hid hw
      clear hO hB hK hTy hw hcell hA1'
      have k0 : ¬ 9223372036854775807 < 1 + pa.size := by omega
      go_wp2
      go_ret
      exact ⟨ret_strF (by rw [HTL.out]; simp [HPa.out]), HW.out⟩

set_option maxHeartbeats 8000000 in
set_option maxRecDepth 100000 in
theorem rfprint_un {op : List UInt8} {a : Fo} {q : Nat} (hr : pk op = 4) (hnot : op ≠ [33]) (ha : PrCF a) : PrCF (.un op a q) := by
  intro w S c hH hl
  have hty0 : ∀ A cap, c = FV.c ⟨⟨op.toArray⟩, ⟨#[]⟩, A, 1, cap, (q : Int)⟩ → TyF w A [a] := fun A cap hc => by subst hc; exact FS.ty (x := .un op a q) hH
  obtain ⟨A, cap, hc, hk⟩ := hH.view
  have hc : c = FV.c ⟨⟨op.toArray⟩, ⟨#[]⟩, A, 1, cap, (q : Int)⟩ := hc
  have hty := hty0 A cap hc
  subst hc
  have hk : FK w 32 S A [a] := hk
  obtain ⟨i0, hi0, hz⟩ := Option.map_eq_some_iff.1 infoS
  simp only [Prod.mk.injEq] at hz
  obtain ⟨hz0, hz1, hz2⟩ := hz
  have HI := Lib.hid hi0
  have HZ0 := Lib.hid hz0
  have HZ1 := Lib.hid hz1
  have HZ2 := Lib.hid hz2
  have htl : tlF (.un op a q) = op ++ ([32] ++ parX (decide (pk a.op < 4)) (tlF a)) := by rw [tlF, hr, if_neg hnot]
  rw [htl] at hl
  simp only [List.length_append, List.length_cons, List.length_nil] at hl
  obtain ⟨ts, hts⟩ : ∃ ts : List (List UInt8), ts = [parX (decide (pk a.op < 4)) (tlF a)] := ⟨_, rfl⟩
  have hpa := parf_lenZ (decide (pk a.op < 4)) (tlF a)
  obtain ⟨ta, hta, hta2⟩ := str_ofF (tlF a) 1000000 (by omega)
  obtain ⟨pa, hpa1, hpa2⟩ := str_ofF (parX (decide (pk a.op < 4)) (tlF a)) 1000000 (by omega)
  have HTa := Lib.hid hta
  have HPa := Lib.hid hpa1
  have HLa := Lib.hid (show (tlF a).length ≤ 1000000 by omega)
  have hsa : ta.size ≤ 1000000 := hta2
  have hqa : pa.size ≤ 1000000 := hpa2
  have HTL := Lib.hid htl
  have HTS := Lib.hid hts
  change Calls Tryz.prog 14 #[.agg #[.string ⟨op.toArray⟩, .string ⟨#[]⟩, .slice A 1 cap, .int .i64 (q : Int)]] w _
  have HK := Lib.hid (fun W : World => rfrank_any ⟨op.toArray⟩ W)
  unfold PkP at HK
  rw [show (⟨op.toArray⟩ : ByteArray).data.toList = op from rfl, hr] at HK
  have hne : op ≠ opLab := by intro e; rw [e] at hr; exact absurd hr (by decide)
  have g1 : ((⟨op.toArray⟩ : ByteArray).toList == [108, 97, 98, 101, 108]) = false := by rw [ByteArray.toList_eq]; exact beq_eq_false_iff_ne.2 hne
  have g3 : ((⟨op.toArray⟩ : ByteArray).toList == [33]) = false := by rw [ByteArray.toList_eq]; exact beq_eq_false_iff_ne.2 hnot
  have hos : op.length ≤ 1000000 := by omega
  have HKD : Hid (FK w 32 S A [a]) := Lib.hid hk
  have HTY := Lib.hid hty
  have HIH := Lib.hid (show PrCF a from ha)
  have hba := (Below.refl w.heap.size w).alloc (Nat.le_refl _) (.cells #[.string ⟨op.toArray⟩, .string ⟨#[]⟩, .slice A 1 cap, .int .i64 (q : Int)] 32)
  have HR0 := Lib.hid (show PrRelF ts [a] S w A cap ⟨op.toArray⟩ ⟨#[]⟩ (q : Int) (.slice none 0 0) (.int .i64 0) (w.alloc (.cells #[.string ⟨op.toArray⟩, .string ⟨#[]⟩, .slice A 1 cap, .int .i64 (q : Int)] 32)) from
    ⟨0, rfl, Nat.zero_le _, World.ownsRow_nil _ _ _ _, Bx.new w 32 [_, _, _, _], hk.below hba, hty.below hba, hba⟩)
  obtain ⟨o, hoo⟩ : ∃ o : ByteArray, o = ⟨op.toArray⟩ := ⟨_, rfl⟩
  rw [← hoo] at HK g1 HR0 g3 ⊢
  have HO := Lib.hid (show o.data.toList = op by rw [hoo])
  have hosz : o.size ≤ 1000000 := by rw [hoo, ← size_listR]; exact hos
  clear hi0 hz0 hz1 hz2 hH hty0 hty hk htl hts hne hos hba hoo hl hr ha hta hpa1 hpa hnot
  go_enter Tryz.func14, Tryz.ntmps14
  go_wp2_with fail
  refine (HK.out _).mono ?_
  rintro e w1 ⟨rfl, rfl⟩
  go_wp2
  go_loopw [4, 5] (fun l i wr => PrRelF ts [a] S w A cap o ⟨#[]⟩ (q : Int) l i wr) (fun _ i _ => 1 - (intOf i).toNat)
  case atStart => exact HR0.out
  case round =>
    clear HR0
    obtain ⟨k, rfl, hk, hO, hB, hK, hTy, hw⟩ := hrel
    obtain ⟨A1, cap1, rfl⟩ := own_formP hO
    obtain ⟨b0, b1, b2, b3⟩ := Bx.cells4 hB
    have hbl := hB.lt
    have b2 : wr.cell? ⟨w.heap.size, 2, none⟩ = some (.slice A 1 cap) := b2
    have hk : k ≤ 1 := hk
    have hcase : k = 0 ∨ k = 1 := by omega
    rcases hcase with rfl | rfl
    · obtain ⟨g, ⟨o', nm', P', l', cp', p'⟩, hA0, hg', hH', a0, a1, a2, a3⟩ := hK 0 (by simp)
      have hA0 : A = some ⟨g, 0, none⟩ := hA0
      subst hA0
      have H := Lib.hid (HIH.out wr _ _ hH' HLa.out)
      have ho' : o' = ⟨a.op.toArray⟩ := FS.opn hH'
      have HRK := Lib.hid (fun W : World => rfrank_any o' W)
      unfold PkP at HRK
      rw [show o'.data.toList = a.op by rw [ho']] at HRK
      have HO := Lib.hid hO
      have HB := Lib.hid hB
      have HKK := Lib.hid hK
      have HTY2 := Lib.hid hTy
      have HW := Lib.hid hw
      clear hO hB hK hTy hw hH' ho'
      go_wp2_with fail
      refine (H.out).mono ?_
      rintro e w2 ⟨rfl, hb2⟩
      rw [← strV_eq HTa.out]
      have HO2 := Lib.hid (owns_belowP HO.out hb2)
      have hB2 := HB.out.below hb2
      have HB2 := Lib.hid hB2
      have hK2 := HKK.out.below hb2
      have HK2 := Lib.hid hK2
      have HTY3 := Lib.hid (HTY2.out.below hb2)
      have HW2 := Lib.hid (HW.out.trans (hb2.mono HW.out.size))
      obtain ⟨b0, b1, b2, b3⟩ := Bx.cells4 hB2
      have b2 : w2.cell? ⟨w.heap.size, 2, none⟩ = some (.slice (some ⟨g, 0, none⟩) 1 cap) := b2
      have hbl2 := hB2.lt
      have a0' := (hb2.cell (p := ⟨g, 0 * 4, none⟩) hg').trans a0
      have hg2 : g < w2.heap.size := Nat.lt_of_lt_of_le hg' hb2.size
      have hz2' := HW2.out.size
      simp only [Nat.zero_mul] at a0'
      clear hb2 hB2 hK2 HO HB HKK HTY2 HW H
      go_wp2_with fail
      refine (HRK.out _).mono ?_
      rintro e w3 ⟨rfl, rfl⟩
      have k0 : ¬ 9223372036854775807 < 1 + ta.size := by omega
      have k1 : ¬ 9223372036854775807 < 1 + ta.size + 1 := by omega
      cases hbb : decide (pk a.op < 4) with
      | true =>
        have c1 : decide ((pk a.op : Int) < (4 : Int)) = true := by
          rw [decide_eq_true_iff]
          have := of_decide_eq_true hbb
          omega
        have HPE := Lib.hid (show (⟨#[40]⟩ ++ ta ++ ⟨#[41]⟩ : ByteArray) = pa by
          have := HPa.out
          rw [hbb] at this
          apply ByteArray.ext
          apply Array.toList_inj.1
          rw [this]
          simp [parX, HTa.out])
        clear hbb
        go_wp2_with (at_builtin; refine wpList_append_lies _ rfl _ _ 42 rfl (w.heap.size + 1) 9 i0 (.string ⟨#[]⟩) 1 16 Tryz.underlying42 HI.out HZ0.out HZ1.out HZ2.out rfl (by decide) _ _ _ rfl (owns_belowP HO2.out ((Below.refl w2.heap.size w2).alloc (Nat.le_refl _) (.cells #[.string (⟨#[40]⟩ ++ ta ++ ⟨#[41]⟩)] 9))) ⟨w2.heap.size, 0, none⟩ 1 1 [.string (⟨#[40]⟩ ++ ta ++ ⟨#[41]⟩)] rfl rfl ?c1 ?c2 (by omega) ?c3 ?c4 ?c5 (w2.heap.size + 1) (by simp) ?_)
        case c1 => intro j u hj; exact cell_addP (Bx.new w2 9 [.string (⟨#[40]⟩ ++ ta ++ ⟨#[41]⟩)]) hj
        case c2 => intro u hu; simp only [List.mem_cons, List.not_mem_nil, or_false] at hu; subst hu; rfl
        case c3 => unfold maxLen; omega
        case c4 => omega
        case c5 => simp; omega
        intro g2 cap2 w4 hown4 hgrow4 hat4 hlt4
        rw [HPE.out] at hown4 hgrow4
        have HR4 := Lib.hid (pr_stepF (k := 0) (z := 0 + 1) (t := pa) (by simp) (by simp) (by rw [HTS.out]; exact ⟨by simp, HPa.out⟩) HO2.out HB2.out HK2.out HW2.out HTY3.out hown4 hgrow4)
        clear hown4 hgrow4 hat4
        go_wp2
        go_roundw
        case rel => exact HR4.out
        case measure => simp [intOf]
      | false =>
        have c1 : decide ((pk a.op : Int) < (4 : Int)) = false := by
          rw [decide_eq_false_iff_not]
          have := of_decide_eq_false hbb
          omega
        have HPE := Lib.hid (show ta = pa by
          have := HPa.out
          rw [hbb] at this
          apply ByteArray.ext
          apply Array.toList_inj.1
          rw [this]
          simp [parX, HTa.out])
        clear hbb
        go_wp2_with (at_builtin; refine wpList_append_lies _ rfl _ _ 42 rfl (w.heap.size + 1) 9 i0 (.string ⟨#[]⟩) 1 16 Tryz.underlying42 HI.out HZ0.out HZ1.out HZ2.out rfl (by decide) _ _ _ rfl (owns_belowP HO2.out ((Below.refl w2.heap.size w2).alloc (Nat.le_refl _) (.cells #[.string ta] 9))) ⟨w2.heap.size, 0, none⟩ 1 1 [.string ta] rfl rfl ?c1 ?c2 (by omega) ?c3 ?c4 ?c5 (w2.heap.size + 1) (by simp) ?_)
        case c1 => intro j u hj; exact cell_addP (Bx.new w2 9 [.string ta]) hj
        case c2 => intro u hu; simp only [List.mem_cons, List.not_mem_nil, or_false] at hu; subst hu; rfl
        case c3 => unfold maxLen; omega
        case c4 => omega
        case c5 => simp; omega
        intro g2 cap2 w4 hown4 hgrow4 hat4 hlt4
        rw [HPE.out] at hown4 hgrow4
        have HR4 := Lib.hid (pr_stepF (k := 0) (z := 0 + 1) (t := pa) (by simp) (by simp) (by rw [HTS.out]; exact ⟨by simp, HPa.out⟩) HO2.out HB2.out HK2.out HW2.out HTY3.out hown4 hgrow4)
        clear hown4 hgrow4 hat4
        go_wp2
        go_roundw
        case rel => exact HR4.out
        case measure => simp [intOf]
    · obtain ⟨g9, hA1, hlg, hcell⟩ := own_atP hO (by decide)
      have hA1' := hA1
      subst hA1
      have q0 := hcell 0 (.string pa) (by rw [HTS.out, strV_eq HPa.out]; rfl)
      have HW := Lib.hid hw
      clear hO hB hK hTy hw hcell hA1'
      have k0 : ¬ 9223372036854775807 < o.size + 1 := by omega
      have k1 : ¬ 9223372036854775807 < o.size + 1 + pa.size := by omega
      go_wp2
      go_region
      go_wp2
      go_ret
      exact ⟨ret_strF (by rw [HTL.out]; simp [HPa.out, HO.out]), HW.out.drew⟩

set_option maxHeartbeats 8000000 in
set_option maxRecDepth 100000 in
theorem rfprint_b0 {op : List UInt8} {a b : Fo} {q : Nat} (hr : pk op = 0)  (ha : PrCF a) (hb : PrCF b) : PrCF (.bin op a b q) := by
  intro w S c hH hl
  have hty0 : ∀ A cap, c = FV.c ⟨⟨op.toArray⟩, ⟨#[]⟩, A, 2, cap, (q : Int)⟩ → TyF w A [a, b] := fun A cap hc => by subst hc; exact FS.ty (x := .bin op a b q) hH
  obtain ⟨A, cap, hc, hk⟩ := hH.view
  have hc : c = FV.c ⟨⟨op.toArray⟩, ⟨#[]⟩, A, 2, cap, (q : Int)⟩ := hc
  have hty := hty0 A cap hc
  subst hc
  have hk : FK w 32 S A [a, b] := hk
  obtain ⟨i0, hi0, hz⟩ := Option.map_eq_some_iff.1 infoS
  simp only [Prod.mk.injEq] at hz
  obtain ⟨hz0, hz1, hz2⟩ := hz
  have HI := Lib.hid hi0
  have HZ0 := Lib.hid hz0
  have HZ1 := Lib.hid hz1
  have HZ2 := Lib.hid hz2
  have htl : tlF (.bin op a b q) = parX (decide (pk a.op < 1)) (tlF a) ++ (32 :: op ++ 32 :: parX (decide (pk b.op < 0)) (tlF b)) := by rw [tlF, hr, show loP 0 0 = 1 from rfl, show loP 0 1 = 0 from rfl]
  rw [htl] at hl
  simp only [List.length_append, List.length_cons] at hl
  obtain ⟨ts, hts⟩ : ∃ ts : List (List UInt8), ts = [parX (decide (pk a.op < 1)) (tlF a), parX (decide (pk b.op < 0)) (tlF b)] := ⟨_, rfl⟩
  have hpa := parf_lenZ (decide (pk a.op < 1)) (tlF a)
  obtain ⟨ta, hta, hta2⟩ := str_ofF (tlF a) 1000000 (by omega)
  obtain ⟨pa, hpa1, hpa2⟩ := str_ofF (parX (decide (pk a.op < 1)) (tlF a)) 1000000 (by omega)
  have HTa := Lib.hid hta
  have HPa := Lib.hid hpa1
  have HLa := Lib.hid (show (tlF a).length ≤ 1000000 by omega)
  have hsa : ta.size ≤ 1000000 := hta2
  have hqa : pa.size ≤ 1000000 := hpa2
  have hpb := parf_lenZ (decide (pk b.op < 0)) (tlF b)
  obtain ⟨tb, htb, htb2⟩ := str_ofF (tlF b) 1000000 (by omega)
  obtain ⟨pb, hpb1, hpb2⟩ := str_ofF (parX (decide (pk b.op < 0)) (tlF b)) 1000000 (by omega)
  have HTb := Lib.hid htb
  have HPb := Lib.hid hpb1
  have HLb := Lib.hid (show (tlF b).length ≤ 1000000 by omega)
  have hsb : tb.size ≤ 1000000 := htb2
  have hqb : pb.size ≤ 1000000 := hpb2
  have HTL := Lib.hid htl
  have HTS := Lib.hid hts
  change Calls Tryz.prog 14 #[.agg #[.string ⟨op.toArray⟩, .string ⟨#[]⟩, .slice A 2 cap, .int .i64 (q : Int)]] w _
  have HK := Lib.hid (fun W : World => rfrank_any ⟨op.toArray⟩ W)
  unfold PkP at HK
  rw [show (⟨op.toArray⟩ : ByteArray).data.toList = op from rfl, hr] at HK
  have hne : op ≠ opLab := by intro e; rw [e] at hr; exact absurd hr (by decide)
  have g1 : ((⟨op.toArray⟩ : ByteArray).toList == [108, 97, 98, 101, 108]) = false := by rw [ByteArray.toList_eq]; exact beq_eq_false_iff_ne.2 hne
  have g2 : (op == [33]) = false := beq_eq_false_iff_ne.2 (by intro e; rw [e] at hr; exact absurd hr (by decide))
  have g3 : ((⟨op.toArray⟩ : ByteArray).toList == [33]) = false := by rw [ByteArray.toList_eq]; exact g2
  have hos : op.length ≤ 1000000 := by omega
  have HKD : Hid (FK w 32 S A [a, b]) := Lib.hid hk
  have HTY := Lib.hid hty
  have HIH := Lib.hid (show PrCF a ∧ PrCF b from ⟨ha, hb⟩)
  have hba := (Below.refl w.heap.size w).alloc (Nat.le_refl _) (.cells #[.string ⟨op.toArray⟩, .string ⟨#[]⟩, .slice A 2 cap, .int .i64 (q : Int)] 32)
  have HR0 := Lib.hid (show PrRelF ts [a, b] S w A cap ⟨op.toArray⟩ ⟨#[]⟩ (q : Int) (.slice none 0 0) (.int .i64 0) (w.alloc (.cells #[.string ⟨op.toArray⟩, .string ⟨#[]⟩, .slice A 2 cap, .int .i64 (q : Int)] 32)) from
    ⟨0, rfl, Nat.zero_le _, World.ownsRow_nil _ _ _ _, Bx.new w 32 [_, _, _, _], hk.below hba, hty.below hba, hba⟩)
  obtain ⟨o, hoo⟩ : ∃ o : ByteArray, o = ⟨op.toArray⟩ := ⟨_, rfl⟩
  rw [← hoo] at HK g1 HR0 g3 ⊢
  have HO := Lib.hid (show o.data.toList = op by rw [hoo])
  have hosz : o.size ≤ 1000000 := by rw [hoo, ← size_listR]; exact hos
  clear hi0 hz0 hz1 hz2 hH hty0 hty hk htl hts hne hos hba hoo hl hr ha hb hta htb hpa1 hpb1 hpa hpb g2
  go_enter Tryz.func14, Tryz.ntmps14
  go_wp2_with fail
  refine (HK.out _).mono ?_
  rintro e w1 ⟨rfl, rfl⟩
  go_wp2
  go_loopw [4, 5] (fun l i wr => PrRelF ts [a, b] S w A cap o ⟨#[]⟩ (q : Int) l i wr) (fun _ i _ => 2 - (intOf i).toNat)
  case atStart => exact HR0.out
  case round =>
    clear HR0
    obtain ⟨k, rfl, hk, hO, hB, hK, hTy, hw⟩ := hrel
    obtain ⟨A1, cap1, rfl⟩ := own_formP hO
    obtain ⟨b0, b1, b2, b3⟩ := Bx.cells4 hB
    have hbl := hB.lt
    have b2 : wr.cell? ⟨w.heap.size, 2, none⟩ = some (.slice A 2 cap) := b2
    have hk : k ≤ 2 := hk
    have hcase : k = 0 ∨ k = 1 ∨ k = 2 := by omega
    rcases hcase with rfl | rfl | rfl
    · obtain ⟨g, ⟨o', nm', P', l', cp', p'⟩, hA0, hg', hH', a0, a1, a2, a3⟩ := hK 0 (by simp)
      have hA0 : A = some ⟨g, 0, none⟩ := hA0
      subst hA0
      have H := Lib.hid (HIH.out.1 wr _ _ hH' HLa.out)
      have ho' : o' = ⟨a.op.toArray⟩ := FS.opn hH'
      have HRK := Lib.hid (fun W : World => rfrank_any o' W)
      unfold PkP at HRK
      rw [show o'.data.toList = a.op by rw [ho']] at HRK
      have HO := Lib.hid hO
      have HB := Lib.hid hB
      have HKK := Lib.hid hK
      have HTY2 := Lib.hid hTy
      have HW := Lib.hid hw
      clear hO hB hK hTy hw hH' ho'
      go_wp2_with fail
      refine (H.out).mono ?_
      rintro e w2 ⟨rfl, hb2⟩
      rw [← strV_eq HTa.out]
      have HO2 := Lib.hid (owns_belowP HO.out hb2)
      have hB2 := HB.out.below hb2
      have HB2 := Lib.hid hB2
      have hK2 := HKK.out.below hb2
      have HK2 := Lib.hid hK2
      have HTY3 := Lib.hid (HTY2.out.below hb2)
      have HW2 := Lib.hid (HW.out.trans (hb2.mono HW.out.size))
      obtain ⟨b0, b1, b2, b3⟩ := Bx.cells4 hB2
      have b2 : w2.cell? ⟨w.heap.size, 2, none⟩ = some (.slice (some ⟨g, 0, none⟩) 2 cap) := b2
      have hbl2 := hB2.lt
      have a0' := (hb2.cell (p := ⟨g, 0 * 4, none⟩) hg').trans a0
      have hg2 : g < w2.heap.size := Nat.lt_of_lt_of_le hg' hb2.size
      have hz2' := HW2.out.size
      simp only [Nat.zero_mul] at a0'
      clear hb2 hB2 hK2 HO HB HKK HTY2 HW H
      go_wp2_with fail
      refine (HRK.out _).mono ?_
      rintro e w3 ⟨rfl, rfl⟩
      have k0 : ¬ 9223372036854775807 < 1 + ta.size := by omega
      have k1 : ¬ 9223372036854775807 < 1 + ta.size + 1 := by omega
      cases hbb : decide (pk a.op < 1) with
      | true =>
        have c1 : decide ((pk a.op : Int) < (1 : Int)) = true := by
          rw [decide_eq_true_iff]
          have := of_decide_eq_true hbb
          omega
        have HPE := Lib.hid (show (⟨#[40]⟩ ++ ta ++ ⟨#[41]⟩ : ByteArray) = pa by
          have := HPa.out
          rw [hbb] at this
          apply ByteArray.ext
          apply Array.toList_inj.1
          rw [this]
          simp [parX, HTa.out])
        clear hbb
        go_wp2_with (at_builtin; refine wpList_append_lies _ rfl _ _ 42 rfl (w.heap.size + 1) 9 i0 (.string ⟨#[]⟩) 1 16 Tryz.underlying42 HI.out HZ0.out HZ1.out HZ2.out rfl (by decide) _ _ _ rfl (owns_belowP HO2.out ((Below.refl w2.heap.size w2).alloc (Nat.le_refl _) (.cells #[.string (⟨#[40]⟩ ++ ta ++ ⟨#[41]⟩)] 9))) ⟨w2.heap.size, 0, none⟩ 1 1 [.string (⟨#[40]⟩ ++ ta ++ ⟨#[41]⟩)] rfl rfl ?c1 ?c2 (by omega) ?c3 ?c4 ?c5 (w2.heap.size + 1) (by simp) ?_)
        case c1 => intro j u hj; exact cell_addP (Bx.new w2 9 [.string (⟨#[40]⟩ ++ ta ++ ⟨#[41]⟩)]) hj
        case c2 => intro u hu; simp only [List.mem_cons, List.not_mem_nil, or_false] at hu; subst hu; rfl
        case c3 => unfold maxLen; omega
        case c4 => omega
        case c5 => simp; omega
        intro g2 cap2 w4 hown4 hgrow4 hat4 hlt4
        rw [HPE.out] at hown4 hgrow4
        have HR4 := Lib.hid (pr_stepF (k := 0) (z := 0 + 1) (t := pa) (by simp) (by simp) (by rw [HTS.out]; exact ⟨by simp, HPa.out⟩) HO2.out HB2.out HK2.out HW2.out HTY3.out hown4 hgrow4)
        clear hown4 hgrow4 hat4
        go_wp2
        go_roundw
        case rel => exact HR4.out
        case measure => simp [intOf]
      | false =>
        have c1 : decide ((pk a.op : Int) < (1 : Int)) = false := by
          rw [decide_eq_false_iff_not]
          have := of_decide_eq_false hbb
          omega
        have HPE := Lib.hid (show ta = pa by
          have := HPa.out
          rw [hbb] at this
          apply ByteArray.ext
          apply Array.toList_inj.1
          rw [this]
          simp [parX, HTa.out])
        clear hbb
        go_wp2_with (at_builtin; refine wpList_append_lies _ rfl _ _ 42 rfl (w.heap.size + 1) 9 i0 (.string ⟨#[]⟩) 1 16 Tryz.underlying42 HI.out HZ0.out HZ1.out HZ2.out rfl (by decide) _ _ _ rfl (owns_belowP HO2.out ((Below.refl w2.heap.size w2).alloc (Nat.le_refl _) (.cells #[.string ta] 9))) ⟨w2.heap.size, 0, none⟩ 1 1 [.string ta] rfl rfl ?c1 ?c2 (by omega) ?c3 ?c4 ?c5 (w2.heap.size + 1) (by simp) ?_)
        case c1 => intro j u hj; exact cell_addP (Bx.new w2 9 [.string ta]) hj
        case c2 => intro u hu; simp only [List.mem_cons, List.not_mem_nil, or_false] at hu; subst hu; rfl
        case c3 => unfold maxLen; omega
        case c4 => omega
        case c5 => simp; omega
        intro g2 cap2 w4 hown4 hgrow4 hat4 hlt4
        rw [HPE.out] at hown4 hgrow4
        have HR4 := Lib.hid (pr_stepF (k := 0) (z := 0 + 1) (t := pa) (by simp) (by simp) (by rw [HTS.out]; exact ⟨by simp, HPa.out⟩) HO2.out HB2.out HK2.out HW2.out HTY3.out hown4 hgrow4)
        clear hown4 hgrow4 hat4
        go_wp2
        go_roundw
        case rel => exact HR4.out
        case measure => simp [intOf]
    · obtain ⟨g, ⟨o', nm', P', l', cp', p'⟩, hA0, hg', hH', a0, a1, a2, a3⟩ := hK 1 (by simp)
      have hA0 : A = some ⟨g, 0, none⟩ := hA0
      subst hA0
      have H := Lib.hid (HIH.out.2 wr _ _ hH' HLb.out)
      have ho' : o' = ⟨b.op.toArray⟩ := FS.opn hH'
      have HRK := Lib.hid (fun W : World => rfrank_any o' W)
      unfold PkP at HRK
      rw [show o'.data.toList = b.op by rw [ho']] at HRK
      have HO := Lib.hid hO
      have HB := Lib.hid hB
      have HKK := Lib.hid hK
      have HTY2 := Lib.hid hTy
      have HW := Lib.hid hw
      clear hO hB hK hTy hw hH' ho'
      go_wp2_with fail
      refine (H.out).mono ?_
      rintro e w2 ⟨rfl, hb2⟩
      rw [← strV_eq HTb.out]
      have HO2 := Lib.hid (owns_belowP HO.out hb2)
      have hB2 := HB.out.below hb2
      have HB2 := Lib.hid hB2
      have hK2 := HKK.out.below hb2
      have HK2 := Lib.hid hK2
      have HTY3 := Lib.hid (HTY2.out.below hb2)
      have HW2 := Lib.hid (HW.out.trans (hb2.mono HW.out.size))
      obtain ⟨b0, b1, b2, b3⟩ := Bx.cells4 hB2
      have b2 : w2.cell? ⟨w.heap.size, 2, none⟩ = some (.slice (some ⟨g, 0, none⟩) 2 cap) := b2
      have hbl2 := hB2.lt
      have a0' := (hb2.cell (p := ⟨g, 1 * 4, none⟩) hg').trans a0
      have hg2 : g < w2.heap.size := Nat.lt_of_lt_of_le hg' hb2.size
      have hz2' := HW2.out.size
      simp only [Nat.one_mul] at a0'
      clear hb2 hB2 hK2 HO HB HKK HTY2 HW H
      go_wp2_with fail
      refine (HRK.out _).mono ?_
      rintro e w3 ⟨rfl, rfl⟩
      have k0 : ¬ 9223372036854775807 < 1 + tb.size := by omega
      have k1 : ¬ 9223372036854775807 < 1 + tb.size + 1 := by omega
      cases hbb : decide (pk b.op < 0) with
      | true => exact absurd (of_decide_eq_true hbb) (by omega)
      | false =>
        have c1 : decide ((pk b.op : Int) < (0 : Int)) = false := by
          rw [decide_eq_false_iff_not]
          have := of_decide_eq_false hbb
          omega
        have HPE := Lib.hid (show tb = pb by
          have := HPb.out
          rw [hbb] at this
          apply ByteArray.ext
          apply Array.toList_inj.1
          rw [this]
          simp [parX, HTb.out])
        clear hbb
        go_wp2_with (at_builtin; refine wpList_append_lies _ rfl _ _ 42 rfl (w.heap.size + 1) 9 i0 (.string ⟨#[]⟩) 1 16 Tryz.underlying42 HI.out HZ0.out HZ1.out HZ2.out rfl (by decide) _ _ _ rfl (owns_belowP HO2.out ((Below.refl w2.heap.size w2).alloc (Nat.le_refl _) (.cells #[.string tb] 9))) ⟨w2.heap.size, 0, none⟩ 1 1 [.string tb] rfl rfl ?c1 ?c2 (by omega) ?c3 ?c4 ?c5 (w2.heap.size + 1) (by simp) ?_)
        case c1 => intro j u hj; exact cell_addP (Bx.new w2 9 [.string tb]) hj
        case c2 => intro u hu; simp only [List.mem_cons, List.not_mem_nil, or_false] at hu; subst hu; rfl
        case c3 => unfold maxLen; omega
        case c4 => omega
        case c5 => simp; omega
        intro g2 cap2 w4 hown4 hgrow4 hat4 hlt4
        rw [HPE.out] at hown4 hgrow4
        rw [← List.map_take] at hown4
        have HR4 := Lib.hid (pr_stepF (k := 1) (z := 1 + 1) (t := pb) (by simp) (by simp) (by rw [HTS.out]; exact ⟨by simp, HPb.out⟩) HO2.out HB2.out HK2.out HW2.out HTY3.out hown4 hgrow4)
        clear hown4 hgrow4 hat4
        go_wp2
        go_roundw
        case rel => exact HR4.out
        case measure => simp [intOf]
    · obtain ⟨g9, hA1, hlg, hcell⟩ := own_atP hO (by decide)
      have hA1' := hA1
      subst hA1
      have q0 := hcell 0 (.string pa) (by rw [HTS.out, strV_eq HPa.out]; rfl)
      have q1 := hcell 1 (.string pb) (by rw [HTS.out, strV_eq HPb.out]; rfl)
      have HW := Lib.hid hw
      clear hO hB hK hTy hw hcell hA1'
      have k0 : ¬ 9223372036854775807 < pa.size + 1 := by omega
      have k1 : ¬ 9223372036854775807 < pa.size + 1 + o.size := by omega
      have k2 : ¬ 9223372036854775807 < pa.size + 1 + o.size + 1 := by omega
      have k3 : ¬ 9223372036854775807 < pa.size + 1 + o.size + 1 + pb.size := by omega
      go_wp2
      go_region
      go_wp2
      go_ret
      exact ⟨ret_strF (by rw [HTL.out]; simp [HPa.out, HPb.out, HO.out]), HW.out.drew⟩

set_option maxHeartbeats 8000000 in
set_option maxRecDepth 100000 in
theorem rfprint_b1 {op : List UInt8} {a b : Fo} {q : Nat} (hr : pk op = 1)  (ha : PrCF a) (hb : PrCF b) : PrCF (.bin op a b q) := by
  intro w S c hH hl
  have hty0 : ∀ A cap, c = FV.c ⟨⟨op.toArray⟩, ⟨#[]⟩, A, 2, cap, (q : Int)⟩ → TyF w A [a, b] := fun A cap hc => by subst hc; exact FS.ty (x := .bin op a b q) hH
  obtain ⟨A, cap, hc, hk⟩ := hH.view
  have hc : c = FV.c ⟨⟨op.toArray⟩, ⟨#[]⟩, A, 2, cap, (q : Int)⟩ := hc
  have hty := hty0 A cap hc
  subst hc
  have hk : FK w 32 S A [a, b] := hk
  obtain ⟨i0, hi0, hz⟩ := Option.map_eq_some_iff.1 infoS
  simp only [Prod.mk.injEq] at hz
  obtain ⟨hz0, hz1, hz2⟩ := hz
  have HI := Lib.hid hi0
  have HZ0 := Lib.hid hz0
  have HZ1 := Lib.hid hz1
  have HZ2 := Lib.hid hz2
  have htl : tlF (.bin op a b q) = parX (decide (pk a.op < 1)) (tlF a) ++ (32 :: op ++ 32 :: parX (decide (pk b.op < 2)) (tlF b)) := by rw [tlF, hr, show loP 1 0 = 1 from rfl, show loP 1 1 = 2 from rfl]
  rw [htl] at hl
  simp only [List.length_append, List.length_cons] at hl
  obtain ⟨ts, hts⟩ : ∃ ts : List (List UInt8), ts = [parX (decide (pk a.op < 1)) (tlF a), parX (decide (pk b.op < 2)) (tlF b)] := ⟨_, rfl⟩
  have hpa := parf_lenZ (decide (pk a.op < 1)) (tlF a)
  obtain ⟨ta, hta, hta2⟩ := str_ofF (tlF a) 1000000 (by omega)
  obtain ⟨pa, hpa1, hpa2⟩ := str_ofF (parX (decide (pk a.op < 1)) (tlF a)) 1000000 (by omega)
  have HTa := Lib.hid hta
  have HPa := Lib.hid hpa1
  have HLa := Lib.hid (show (tlF a).length ≤ 1000000 by omega)
  have hsa : ta.size ≤ 1000000 := hta2
  have hqa : pa.size ≤ 1000000 := hpa2
  have hpb := parf_lenZ (decide (pk b.op < 2)) (tlF b)
  obtain ⟨tb, htb, htb2⟩ := str_ofF (tlF b) 1000000 (by omega)
  obtain ⟨pb, hpb1, hpb2⟩ := str_ofF (parX (decide (pk b.op < 2)) (tlF b)) 1000000 (by omega)
  have HTb := Lib.hid htb
  have HPb := Lib.hid hpb1
  have HLb := Lib.hid (show (tlF b).length ≤ 1000000 by omega)
  have hsb : tb.size ≤ 1000000 := htb2
  have hqb : pb.size ≤ 1000000 := hpb2
  have HTL := Lib.hid htl
  have HTS := Lib.hid hts
  change Calls Tryz.prog 14 #[.agg #[.string ⟨op.toArray⟩, .string ⟨#[]⟩, .slice A 2 cap, .int .i64 (q : Int)]] w _
  have HK := Lib.hid (fun W : World => rfrank_any ⟨op.toArray⟩ W)
  unfold PkP at HK
  rw [show (⟨op.toArray⟩ : ByteArray).data.toList = op from rfl, hr] at HK
  have hne : op ≠ opLab := by intro e; rw [e] at hr; exact absurd hr (by decide)
  have g1 : ((⟨op.toArray⟩ : ByteArray).toList == [108, 97, 98, 101, 108]) = false := by rw [ByteArray.toList_eq]; exact beq_eq_false_iff_ne.2 hne
  have g2 : (op == [33]) = false := beq_eq_false_iff_ne.2 (by intro e; rw [e] at hr; exact absurd hr (by decide))
  have g3 : ((⟨op.toArray⟩ : ByteArray).toList == [33]) = false := by rw [ByteArray.toList_eq]; exact g2
  have hos : op.length ≤ 1000000 := by omega
  have HKD : Hid (FK w 32 S A [a, b]) := Lib.hid hk
  have HTY := Lib.hid hty
  have HIH := Lib.hid (show PrCF a ∧ PrCF b from ⟨ha, hb⟩)
  have hba := (Below.refl w.heap.size w).alloc (Nat.le_refl _) (.cells #[.string ⟨op.toArray⟩, .string ⟨#[]⟩, .slice A 2 cap, .int .i64 (q : Int)] 32)
  have HR0 := Lib.hid (show PrRelF ts [a, b] S w A cap ⟨op.toArray⟩ ⟨#[]⟩ (q : Int) (.slice none 0 0) (.int .i64 0) (w.alloc (.cells #[.string ⟨op.toArray⟩, .string ⟨#[]⟩, .slice A 2 cap, .int .i64 (q : Int)] 32)) from
    ⟨0, rfl, Nat.zero_le _, World.ownsRow_nil _ _ _ _, Bx.new w 32 [_, _, _, _], hk.below hba, hty.below hba, hba⟩)
  obtain ⟨o, hoo⟩ : ∃ o : ByteArray, o = ⟨op.toArray⟩ := ⟨_, rfl⟩
  rw [← hoo] at HK g1 HR0 g3 ⊢
  have HO := Lib.hid (show o.data.toList = op by rw [hoo])
  have hosz : o.size ≤ 1000000 := by rw [hoo, ← size_listR]; exact hos
  clear hi0 hz0 hz1 hz2 hH hty0 hty hk htl hts hne hos hba hoo hl hr ha hb hta htb hpa1 hpb1 hpa hpb g2
  go_enter Tryz.func14, Tryz.ntmps14
  go_wp2_with fail
  refine (HK.out _).mono ?_
  rintro e w1 ⟨rfl, rfl⟩
  go_wp2
  go_loopw [4, 5] (fun l i wr => PrRelF ts [a, b] S w A cap o ⟨#[]⟩ (q : Int) l i wr) (fun _ i _ => 2 - (intOf i).toNat)
  case atStart => exact HR0.out
  case round =>
    clear HR0
    obtain ⟨k, rfl, hk, hO, hB, hK, hTy, hw⟩ := hrel
    obtain ⟨A1, cap1, rfl⟩ := own_formP hO
    obtain ⟨b0, b1, b2, b3⟩ := Bx.cells4 hB
    have hbl := hB.lt
    have b2 : wr.cell? ⟨w.heap.size, 2, none⟩ = some (.slice A 2 cap) := b2
    have hk : k ≤ 2 := hk
    have hcase : k = 0 ∨ k = 1 ∨ k = 2 := by omega
    rcases hcase with rfl | rfl | rfl
    · obtain ⟨g, ⟨o', nm', P', l', cp', p'⟩, hA0, hg', hH', a0, a1, a2, a3⟩ := hK 0 (by simp)
      have hA0 : A = some ⟨g, 0, none⟩ := hA0
      subst hA0
      have H := Lib.hid (HIH.out.1 wr _ _ hH' HLa.out)
      have ho' : o' = ⟨a.op.toArray⟩ := FS.opn hH'
      have HRK := Lib.hid (fun W : World => rfrank_any o' W)
      unfold PkP at HRK
      rw [show o'.data.toList = a.op by rw [ho']] at HRK
      have HO := Lib.hid hO
      have HB := Lib.hid hB
      have HKK := Lib.hid hK
      have HTY2 := Lib.hid hTy
      have HW := Lib.hid hw
      clear hO hB hK hTy hw hH' ho'
      go_wp2_with fail
      refine (H.out).mono ?_
      rintro e w2 ⟨rfl, hb2⟩
      rw [← strV_eq HTa.out]
      have HO2 := Lib.hid (owns_belowP HO.out hb2)
      have hB2 := HB.out.below hb2
      have HB2 := Lib.hid hB2
      have hK2 := HKK.out.below hb2
      have HK2 := Lib.hid hK2
      have HTY3 := Lib.hid (HTY2.out.below hb2)
      have HW2 := Lib.hid (HW.out.trans (hb2.mono HW.out.size))
      obtain ⟨b0, b1, b2, b3⟩ := Bx.cells4 hB2
      have b2 : w2.cell? ⟨w.heap.size, 2, none⟩ = some (.slice (some ⟨g, 0, none⟩) 2 cap) := b2
      have hbl2 := hB2.lt
      have a0' := (hb2.cell (p := ⟨g, 0 * 4, none⟩) hg').trans a0
      have hg2 : g < w2.heap.size := Nat.lt_of_lt_of_le hg' hb2.size
      have hz2' := HW2.out.size
      simp only [Nat.zero_mul] at a0'
      clear hb2 hB2 hK2 HO HB HKK HTY2 HW H
      go_wp2_with fail
      refine (HRK.out _).mono ?_
      rintro e w3 ⟨rfl, rfl⟩
      have k0 : ¬ 9223372036854775807 < 1 + ta.size := by omega
      have k1 : ¬ 9223372036854775807 < 1 + ta.size + 1 := by omega
      cases hbb : decide (pk a.op < 1) with
      | true =>
        have c1 : decide ((pk a.op : Int) < (1 : Int)) = true := by
          rw [decide_eq_true_iff]
          have := of_decide_eq_true hbb
          omega
        have HPE := Lib.hid (show (⟨#[40]⟩ ++ ta ++ ⟨#[41]⟩ : ByteArray) = pa by
          have := HPa.out
          rw [hbb] at this
          apply ByteArray.ext
          apply Array.toList_inj.1
          rw [this]
          simp [parX, HTa.out])
        clear hbb
        go_wp2_with (at_builtin; refine wpList_append_lies _ rfl _ _ 42 rfl (w.heap.size + 1) 9 i0 (.string ⟨#[]⟩) 1 16 Tryz.underlying42 HI.out HZ0.out HZ1.out HZ2.out rfl (by decide) _ _ _ rfl (owns_belowP HO2.out ((Below.refl w2.heap.size w2).alloc (Nat.le_refl _) (.cells #[.string (⟨#[40]⟩ ++ ta ++ ⟨#[41]⟩)] 9))) ⟨w2.heap.size, 0, none⟩ 1 1 [.string (⟨#[40]⟩ ++ ta ++ ⟨#[41]⟩)] rfl rfl ?c1 ?c2 (by omega) ?c3 ?c4 ?c5 (w2.heap.size + 1) (by simp) ?_)
        case c1 => intro j u hj; exact cell_addP (Bx.new w2 9 [.string (⟨#[40]⟩ ++ ta ++ ⟨#[41]⟩)]) hj
        case c2 => intro u hu; simp only [List.mem_cons, List.not_mem_nil, or_false] at hu; subst hu; rfl
        case c3 => unfold maxLen; omega
        case c4 => omega
        case c5 => simp; omega
        intro g2 cap2 w4 hown4 hgrow4 hat4 hlt4
        rw [HPE.out] at hown4 hgrow4
        have HR4 := Lib.hid (pr_stepF (k := 0) (z := 0 + 1) (t := pa) (by simp) (by simp) (by rw [HTS.out]; exact ⟨by simp, HPa.out⟩) HO2.out HB2.out HK2.out HW2.out HTY3.out hown4 hgrow4)
        clear hown4 hgrow4 hat4
        go_wp2
        go_roundw
        case rel => exact HR4.out
        case measure => simp [intOf]
      | false =>
        have c1 : decide ((pk a.op : Int) < (1 : Int)) = false := by
          rw [decide_eq_false_iff_not]
          have := of_decide_eq_false hbb
          omega
        have HPE := Lib.hid (show ta = pa by
          have := HPa.out
          rw [hbb] at this
          apply ByteArray.ext
          apply Array.toList_inj.1
          rw [this]
          simp [parX, HTa.out])
        clear hbb
        go_wp2_with (at_builtin; refine wpList_append_lies _ rfl _ _ 42 rfl (w.heap.size + 1) 9 i0 (.string ⟨#[]⟩) 1 16 Tryz.underlying42 HI.out HZ0.out HZ1.out HZ2.out rfl (by decide) _ _ _ rfl (owns_belowP HO2.out ((Below.refl w2.heap.size w2).alloc (Nat.le_refl _) (.cells #[.string ta] 9))) ⟨w2.heap.size, 0, none⟩ 1 1 [.string ta] rfl rfl ?c1 ?c2 (by omega) ?c3 ?c4 ?c5 (w2.heap.size + 1) (by simp) ?_)
        case c1 => intro j u hj; exact cell_addP (Bx.new w2 9 [.string ta]) hj
        case c2 => intro u hu; simp only [List.mem_cons, List.not_mem_nil, or_false] at hu; subst hu; rfl
        case c3 => unfold maxLen; omega
        case c4 => omega
        case c5 => simp; omega
        intro g2 cap2 w4 hown4 hgrow4 hat4 hlt4
        rw [HPE.out] at hown4 hgrow4
        have HR4 := Lib.hid (pr_stepF (k := 0) (z := 0 + 1) (t := pa) (by simp) (by simp) (by rw [HTS.out]; exact ⟨by simp, HPa.out⟩) HO2.out HB2.out HK2.out HW2.out HTY3.out hown4 hgrow4)
        clear hown4 hgrow4 hat4
        go_wp2
        go_roundw
        case rel => exact HR4.out
        case measure => simp [intOf]
    · obtain ⟨g, ⟨o', nm', P', l', cp', p'⟩, hA0, hg', hH', a0, a1, a2, a3⟩ := hK 1 (by simp)
      have hA0 : A = some ⟨g, 0, none⟩ := hA0
      subst hA0
      have H := Lib.hid (HIH.out.2 wr _ _ hH' HLb.out)
      have ho' : o' = ⟨b.op.toArray⟩ := FS.opn hH'
      have HRK := Lib.hid (fun W : World => rfrank_any o' W)
      unfold PkP at HRK
      rw [show o'.data.toList = b.op by rw [ho']] at HRK
      have HO := Lib.hid hO
      have HB := Lib.hid hB
      have HKK := Lib.hid hK
      have HTY2 := Lib.hid hTy
      have HW := Lib.hid hw
      clear hO hB hK hTy hw hH' ho'
      go_wp2_with fail
      refine (H.out).mono ?_
      rintro e w2 ⟨rfl, hb2⟩
      rw [← strV_eq HTb.out]
      have HO2 := Lib.hid (owns_belowP HO.out hb2)
      have hB2 := HB.out.below hb2
      have HB2 := Lib.hid hB2
      have hK2 := HKK.out.below hb2
      have HK2 := Lib.hid hK2
      have HTY3 := Lib.hid (HTY2.out.below hb2)
      have HW2 := Lib.hid (HW.out.trans (hb2.mono HW.out.size))
      obtain ⟨b0, b1, b2, b3⟩ := Bx.cells4 hB2
      have b2 : w2.cell? ⟨w.heap.size, 2, none⟩ = some (.slice (some ⟨g, 0, none⟩) 2 cap) := b2
      have hbl2 := hB2.lt
      have a0' := (hb2.cell (p := ⟨g, 1 * 4, none⟩) hg').trans a0
      have hg2 : g < w2.heap.size := Nat.lt_of_lt_of_le hg' hb2.size
      have hz2' := HW2.out.size
      simp only [Nat.one_mul] at a0'
      clear hb2 hB2 hK2 HO HB HKK HTY2 HW H
      go_wp2_with fail
      refine (HRK.out _).mono ?_
      rintro e w3 ⟨rfl, rfl⟩
      have k0 : ¬ 9223372036854775807 < 1 + tb.size := by omega
      have k1 : ¬ 9223372036854775807 < 1 + tb.size + 1 := by omega
      cases hbb : decide (pk b.op < 2) with
      | true =>
        have c1 : decide ((pk b.op : Int) < (2 : Int)) = true := by
          rw [decide_eq_true_iff]
          have := of_decide_eq_true hbb
          omega
        have HPE := Lib.hid (show (⟨#[40]⟩ ++ tb ++ ⟨#[41]⟩ : ByteArray) = pb by
          have := HPb.out
          rw [hbb] at this
          apply ByteArray.ext
          apply Array.toList_inj.1
          rw [this]
          simp [parX, HTb.out])
        clear hbb
        go_wp2_with (at_builtin; refine wpList_append_lies _ rfl _ _ 42 rfl (w.heap.size + 1) 9 i0 (.string ⟨#[]⟩) 1 16 Tryz.underlying42 HI.out HZ0.out HZ1.out HZ2.out rfl (by decide) _ _ _ rfl (owns_belowP HO2.out ((Below.refl w2.heap.size w2).alloc (Nat.le_refl _) (.cells #[.string (⟨#[40]⟩ ++ tb ++ ⟨#[41]⟩)] 9))) ⟨w2.heap.size, 0, none⟩ 1 1 [.string (⟨#[40]⟩ ++ tb ++ ⟨#[41]⟩)] rfl rfl ?c1 ?c2 (by omega) ?c3 ?c4 ?c5 (w2.heap.size + 1) (by simp) ?_)
        case c1 => intro j u hj; exact cell_addP (Bx.new w2 9 [.string (⟨#[40]⟩ ++ tb ++ ⟨#[41]⟩)]) hj
        case c2 => intro u hu; simp only [List.mem_cons, List.not_mem_nil, or_false] at hu; subst hu; rfl
        case c3 => unfold maxLen; omega
        case c4 => omega
        case c5 => simp; omega
        intro g2 cap2 w4 hown4 hgrow4 hat4 hlt4
        rw [HPE.out] at hown4 hgrow4
        rw [← List.map_take] at hown4
        have HR4 := Lib.hid (pr_stepF (k := 1) (z := 1 + 1) (t := pb) (by simp) (by simp) (by rw [HTS.out]; exact ⟨by simp, HPb.out⟩) HO2.out HB2.out HK2.out HW2.out HTY3.out hown4 hgrow4)
        clear hown4 hgrow4 hat4
        go_wp2
        go_roundw
        case rel => exact HR4.out
        case measure => simp [intOf]
      | false =>
        have c1 : decide ((pk b.op : Int) < (2 : Int)) = false := by
          rw [decide_eq_false_iff_not]
          have := of_decide_eq_false hbb
          omega
        have HPE := Lib.hid (show tb = pb by
          have := HPb.out
          rw [hbb] at this
          apply ByteArray.ext
          apply Array.toList_inj.1
          rw [this]
          simp [parX, HTb.out])
        clear hbb
        go_wp2_with (at_builtin; refine wpList_append_lies _ rfl _ _ 42 rfl (w.heap.size + 1) 9 i0 (.string ⟨#[]⟩) 1 16 Tryz.underlying42 HI.out HZ0.out HZ1.out HZ2.out rfl (by decide) _ _ _ rfl (owns_belowP HO2.out ((Below.refl w2.heap.size w2).alloc (Nat.le_refl _) (.cells #[.string tb] 9))) ⟨w2.heap.size, 0, none⟩ 1 1 [.string tb] rfl rfl ?c1 ?c2 (by omega) ?c3 ?c4 ?c5 (w2.heap.size + 1) (by simp) ?_)
        case c1 => intro j u hj; exact cell_addP (Bx.new w2 9 [.string tb]) hj
        case c2 => intro u hu; simp only [List.mem_cons, List.not_mem_nil, or_false] at hu; subst hu; rfl
        case c3 => unfold maxLen; omega
        case c4 => omega
        case c5 => simp; omega
        intro g2 cap2 w4 hown4 hgrow4 hat4 hlt4
        rw [HPE.out] at hown4 hgrow4
        rw [← List.map_take] at hown4
        have HR4 := Lib.hid (pr_stepF (k := 1) (z := 1 + 1) (t := pb) (by simp) (by simp) (by rw [HTS.out]; exact ⟨by simp, HPb.out⟩) HO2.out HB2.out HK2.out HW2.out HTY3.out hown4 hgrow4)
        clear hown4 hgrow4 hat4
        go_wp2
        go_roundw
        case rel => exact HR4.out
        case measure => simp [intOf]
    · obtain ⟨g9, hA1, hlg, hcell⟩ := own_atP hO (by decide)
      have hA1' := hA1
      subst hA1
      have q0 := hcell 0 (.string pa) (by rw [HTS.out, strV_eq HPa.out]; rfl)
      have q1 := hcell 1 (.string pb) (by rw [HTS.out, strV_eq HPb.out]; rfl)
      have HW := Lib.hid hw
      clear hO hB hK hTy hw hcell hA1'
      have k0 : ¬ 9223372036854775807 < pa.size + 1 := by omega
      have k1 : ¬ 9223372036854775807 < pa.size + 1 + o.size := by omega
      have k2 : ¬ 9223372036854775807 < pa.size + 1 + o.size + 1 := by omega
      have k3 : ¬ 9223372036854775807 < pa.size + 1 + o.size + 1 + pb.size := by omega
      go_wp2
      go_region
      go_wp2
      go_ret
      exact ⟨ret_strF (by rw [HTL.out]; simp [HPa.out, HPb.out, HO.out]), HW.out.drew⟩

set_option maxHeartbeats 8000000 in
set_option maxRecDepth 100000 in
theorem rfprint_b2 {op : List UInt8} {a b : Fo} {q : Nat} (hr : pk op = 2)  (ha : PrCF a) (hb : PrCF b) : PrCF (.bin op a b q) := by
  intro w S c hH hl
  have hty0 : ∀ A cap, c = FV.c ⟨⟨op.toArray⟩, ⟨#[]⟩, A, 2, cap, (q : Int)⟩ → TyF w A [a, b] := fun A cap hc => by subst hc; exact FS.ty (x := .bin op a b q) hH
  obtain ⟨A, cap, hc, hk⟩ := hH.view
  have hc : c = FV.c ⟨⟨op.toArray⟩, ⟨#[]⟩, A, 2, cap, (q : Int)⟩ := hc
  have hty := hty0 A cap hc
  subst hc
  have hk : FK w 32 S A [a, b] := hk
  obtain ⟨i0, hi0, hz⟩ := Option.map_eq_some_iff.1 infoS
  simp only [Prod.mk.injEq] at hz
  obtain ⟨hz0, hz1, hz2⟩ := hz
  have HI := Lib.hid hi0
  have HZ0 := Lib.hid hz0
  have HZ1 := Lib.hid hz1
  have HZ2 := Lib.hid hz2
  have htl : tlF (.bin op a b q) = parX (decide (pk a.op < 2)) (tlF a) ++ (32 :: op ++ 32 :: parX (decide (pk b.op < 3)) (tlF b)) := by rw [tlF, hr, show loP 2 0 = 2 from rfl, show loP 2 1 = 3 from rfl]
  rw [htl] at hl
  simp only [List.length_append, List.length_cons] at hl
  obtain ⟨ts, hts⟩ : ∃ ts : List (List UInt8), ts = [parX (decide (pk a.op < 2)) (tlF a), parX (decide (pk b.op < 3)) (tlF b)] := ⟨_, rfl⟩
  have hpa := parf_lenZ (decide (pk a.op < 2)) (tlF a)
  obtain ⟨ta, hta, hta2⟩ := str_ofF (tlF a) 1000000 (by omega)
  obtain ⟨pa, hpa1, hpa2⟩ := str_ofF (parX (decide (pk a.op < 2)) (tlF a)) 1000000 (by omega)
  have HTa := Lib.hid hta
  have HPa := Lib.hid hpa1
  have HLa := Lib.hid (show (tlF a).length ≤ 1000000 by omega)
  have hsa : ta.size ≤ 1000000 := hta2
  have hqa : pa.size ≤ 1000000 := hpa2
  have hpb := parf_lenZ (decide (pk b.op < 3)) (tlF b)
  obtain ⟨tb, htb, htb2⟩ := str_ofF (tlF b) 1000000 (by omega)
  obtain ⟨pb, hpb1, hpb2⟩ := str_ofF (parX (decide (pk b.op < 3)) (tlF b)) 1000000 (by omega)
  have HTb := Lib.hid htb
  have HPb := Lib.hid hpb1
  have HLb := Lib.hid (show (tlF b).length ≤ 1000000 by omega)
  have hsb : tb.size ≤ 1000000 := htb2
  have hqb : pb.size ≤ 1000000 := hpb2
  have HTL := Lib.hid htl
  have HTS := Lib.hid hts
  change Calls Tryz.prog 14 #[.agg #[.string ⟨op.toArray⟩, .string ⟨#[]⟩, .slice A 2 cap, .int .i64 (q : Int)]] w _
  have HK := Lib.hid (fun W : World => rfrank_any ⟨op.toArray⟩ W)
  unfold PkP at HK
  rw [show (⟨op.toArray⟩ : ByteArray).data.toList = op from rfl, hr] at HK
  have hne : op ≠ opLab := by intro e; rw [e] at hr; exact absurd hr (by decide)
  have g1 : ((⟨op.toArray⟩ : ByteArray).toList == [108, 97, 98, 101, 108]) = false := by rw [ByteArray.toList_eq]; exact beq_eq_false_iff_ne.2 hne
  have g2 : (op == [33]) = false := beq_eq_false_iff_ne.2 (by intro e; rw [e] at hr; exact absurd hr (by decide))
  have g3 : ((⟨op.toArray⟩ : ByteArray).toList == [33]) = false := by rw [ByteArray.toList_eq]; exact g2
  have hos : op.length ≤ 1000000 := by omega
  have HKD : Hid (FK w 32 S A [a, b]) := Lib.hid hk
  have HTY := Lib.hid hty
  have HIH := Lib.hid (show PrCF a ∧ PrCF b from ⟨ha, hb⟩)
  have hba := (Below.refl w.heap.size w).alloc (Nat.le_refl _) (.cells #[.string ⟨op.toArray⟩, .string ⟨#[]⟩, .slice A 2 cap, .int .i64 (q : Int)] 32)
  have HR0 := Lib.hid (show PrRelF ts [a, b] S w A cap ⟨op.toArray⟩ ⟨#[]⟩ (q : Int) (.slice none 0 0) (.int .i64 0) (w.alloc (.cells #[.string ⟨op.toArray⟩, .string ⟨#[]⟩, .slice A 2 cap, .int .i64 (q : Int)] 32)) from
    ⟨0, rfl, Nat.zero_le _, World.ownsRow_nil _ _ _ _, Bx.new w 32 [_, _, _, _], hk.below hba, hty.below hba, hba⟩)
  obtain ⟨o, hoo⟩ : ∃ o : ByteArray, o = ⟨op.toArray⟩ := ⟨_, rfl⟩
  rw [← hoo] at HK g1 HR0 g3 ⊢
  have HO := Lib.hid (show o.data.toList = op by rw [hoo])
  have hosz : o.size ≤ 1000000 := by rw [hoo, ← size_listR]; exact hos
  clear hi0 hz0 hz1 hz2 hH hty0 hty hk htl hts hne hos hba hoo hl hr ha hb hta htb hpa1 hpb1 hpa hpb g2
  go_enter Tryz.func14, Tryz.ntmps14
  go_wp2_with fail
  refine (HK.out _).mono ?_
  rintro e w1 ⟨rfl, rfl⟩
  go_wp2
  go_loopw [4, 5] (fun l i wr => PrRelF ts [a, b] S w A cap o ⟨#[]⟩ (q : Int) l i wr) (fun _ i _ => 2 - (intOf i).toNat)
  case atStart => exact HR0.out
  case round =>
    clear HR0
    obtain ⟨k, rfl, hk, hO, hB, hK, hTy, hw⟩ := hrel
    obtain ⟨A1, cap1, rfl⟩ := own_formP hO
    obtain ⟨b0, b1, b2, b3⟩ := Bx.cells4 hB
    have hbl := hB.lt
    have b2 : wr.cell? ⟨w.heap.size, 2, none⟩ = some (.slice A 2 cap) := b2
    have hk : k ≤ 2 := hk
    have hcase : k = 0 ∨ k = 1 ∨ k = 2 := by omega
    rcases hcase with rfl | rfl | rfl
    · obtain ⟨g, ⟨o', nm', P', l', cp', p'⟩, hA0, hg', hH', a0, a1, a2, a3⟩ := hK 0 (by simp)
      have hA0 : A = some ⟨g, 0, none⟩ := hA0
      subst hA0
      have H := Lib.hid (HIH.out.1 wr _ _ hH' HLa.out)
      have ho' : o' = ⟨a.op.toArray⟩ := FS.opn hH'
      have HRK := Lib.hid (fun W : World => rfrank_any o' W)
      unfold PkP at HRK
      rw [show o'.data.toList = a.op by rw [ho']] at HRK
      have HO := Lib.hid hO
      have HB := Lib.hid hB
      have HKK := Lib.hid hK
      have HTY2 := Lib.hid hTy
      have HW := Lib.hid hw
      clear hO hB hK hTy hw hH' ho'
      go_wp2_with fail
      refine (H.out).mono ?_
      rintro e w2 ⟨rfl, hb2⟩
      rw [← strV_eq HTa.out]
      have HO2 := Lib.hid (owns_belowP HO.out hb2)
      have hB2 := HB.out.below hb2
      have HB2 := Lib.hid hB2
      have hK2 := HKK.out.below hb2
      have HK2 := Lib.hid hK2
      have HTY3 := Lib.hid (HTY2.out.below hb2)
      have HW2 := Lib.hid (HW.out.trans (hb2.mono HW.out.size))
      obtain ⟨b0, b1, b2, b3⟩ := Bx.cells4 hB2
      have b2 : w2.cell? ⟨w.heap.size, 2, none⟩ = some (.slice (some ⟨g, 0, none⟩) 2 cap) := b2
      have hbl2 := hB2.lt
      have a0' := (hb2.cell (p := ⟨g, 0 * 4, none⟩) hg').trans a0
      have hg2 : g < w2.heap.size := Nat.lt_of_lt_of_le hg' hb2.size
      have hz2' := HW2.out.size
      simp only [Nat.zero_mul] at a0'
      clear hb2 hB2 hK2 HO HB HKK HTY2 HW H
      go_wp2_with fail
      refine (HRK.out _).mono ?_
      rintro e w3 ⟨rfl, rfl⟩
      have k0 : ¬ 9223372036854775807 < 1 + ta.size := by omega
      have k1 : ¬ 9223372036854775807 < 1 + ta.size + 1 := by omega
      cases hbb : decide (pk a.op < 2) with
      | true =>
        have c1 : decide ((pk a.op : Int) < (2 : Int)) = true := by
          rw [decide_eq_true_iff]
          have := of_decide_eq_true hbb
          omega
        have HPE := Lib.hid (show (⟨#[40]⟩ ++ ta ++ ⟨#[41]⟩ : ByteArray) = pa by
          have := HPa.out
          rw [hbb] at this
          apply ByteArray.ext
          apply Array.toList_inj.1
          rw [this]
          simp [parX, HTa.out])
        clear hbb
        go_wp2_with (at_builtin; refine wpList_append_lies _ rfl _ _ 42 rfl (w.heap.size + 1) 9 i0 (.string ⟨#[]⟩) 1 16 Tryz.underlying42 HI.out HZ0.out HZ1.out HZ2.out rfl (by decide) _ _ _ rfl (owns_belowP HO2.out ((Below.refl w2.heap.size w2).alloc (Nat.le_refl _) (.cells #[.string (⟨#[40]⟩ ++ ta ++ ⟨#[41]⟩)] 9))) ⟨w2.heap.size, 0, none⟩ 1 1 [.string (⟨#[40]⟩ ++ ta ++ ⟨#[41]⟩)] rfl rfl ?c1 ?c2 (by omega) ?c3 ?c4 ?c5 (w2.heap.size + 1) (by simp) ?_)
        case c1 => intro j u hj; exact cell_addP (Bx.new w2 9 [.string (⟨#[40]⟩ ++ ta ++ ⟨#[41]⟩)]) hj
        case c2 => intro u hu; simp only [List.mem_cons, List.not_mem_nil, or_false] at hu; subst hu; rfl
        case c3 => unfold maxLen; omega
        case c4 => omega
        case c5 => simp; omega
        intro g2 cap2 w4 hown4 hgrow4 hat4 hlt4
        rw [HPE.out] at hown4 hgrow4
        have HR4 := Lib.hid (pr_stepF (k := 0) (z := 0 + 1) (t := pa) (by simp) (by simp) (by rw [HTS.out]; exact ⟨by simp, HPa.out⟩) HO2.out HB2.out HK2.out HW2.out HTY3.out hown4 hgrow4)
        clear hown4 hgrow4 hat4
        go_wp2
        go_roundw
        case rel => exact HR4.out
        case measure => simp [intOf]
      | false =>
        have c1 : decide ((pk a.op : Int) < (2 : Int)) = false := by
          rw [decide_eq_false_iff_not]
          have := of_decide_eq_false hbb
          omega
        have HPE := Lib.hid (show ta = pa by
          have := HPa.out
          rw [hbb] at this
          apply ByteArray.ext
          apply Array.toList_inj.1
          rw [this]
          simp [parX, HTa.out])
        clear hbb
        go_wp2_with (at_builtin; refine wpList_append_lies _ rfl _ _ 42 rfl (w.heap.size + 1) 9 i0 (.string ⟨#[]⟩) 1 16 Tryz.underlying42 HI.out HZ0.out HZ1.out HZ2.out rfl (by decide) _ _ _ rfl (owns_belowP HO2.out ((Below.refl w2.heap.size w2).alloc (Nat.le_refl _) (.cells #[.string ta] 9))) ⟨w2.heap.size, 0, none⟩ 1 1 [.string ta] rfl rfl ?c1 ?c2 (by omega) ?c3 ?c4 ?c5 (w2.heap.size + 1) (by simp) ?_)
        case c1 => intro j u hj; exact cell_addP (Bx.new w2 9 [.string ta]) hj
        case c2 => intro u hu; simp only [List.mem_cons, List.not_mem_nil, or_false] at hu; subst hu; rfl
        case c3 => unfold maxLen; omega
        case c4 => omega
        case c5 => simp; omega
        intro g2 cap2 w4 hown4 hgrow4 hat4 hlt4
        rw [HPE.out] at hown4 hgrow4
        have HR4 := Lib.hid (pr_stepF (k := 0) (z := 0 + 1) (t := pa) (by simp) (by simp) (by rw [HTS.out]; exact ⟨by simp, HPa.out⟩) HO2.out HB2.out HK2.out HW2.out HTY3.out hown4 hgrow4)
        clear hown4 hgrow4 hat4
        go_wp2
        go_roundw
        case rel => exact HR4.out
        case measure => simp [intOf]
    · obtain ⟨g, ⟨o', nm', P', l', cp', p'⟩, hA0, hg', hH', a0, a1, a2, a3⟩ := hK 1 (by simp)
      have hA0 : A = some ⟨g, 0, none⟩ := hA0
      subst hA0
      have H := Lib.hid (HIH.out.2 wr _ _ hH' HLb.out)
      have ho' : o' = ⟨b.op.toArray⟩ := FS.opn hH'
      have HRK := Lib.hid (fun W : World => rfrank_any o' W)
      unfold PkP at HRK
      rw [show o'.data.toList = b.op by rw [ho']] at HRK
      have HO := Lib.hid hO
      have HB := Lib.hid hB
      have HKK := Lib.hid hK
      have HTY2 := Lib.hid hTy
      have HW := Lib.hid hw
      clear hO hB hK hTy hw hH' ho'
      go_wp2_with fail
      refine (H.out).mono ?_
      rintro e w2 ⟨rfl, hb2⟩
      rw [← strV_eq HTb.out]
      have HO2 := Lib.hid (owns_belowP HO.out hb2)
      have hB2 := HB.out.below hb2
      have HB2 := Lib.hid hB2
      have hK2 := HKK.out.below hb2
      have HK2 := Lib.hid hK2
      have HTY3 := Lib.hid (HTY2.out.below hb2)
      have HW2 := Lib.hid (HW.out.trans (hb2.mono HW.out.size))
      obtain ⟨b0, b1, b2, b3⟩ := Bx.cells4 hB2
      have b2 : w2.cell? ⟨w.heap.size, 2, none⟩ = some (.slice (some ⟨g, 0, none⟩) 2 cap) := b2
      have hbl2 := hB2.lt
      have a0' := (hb2.cell (p := ⟨g, 1 * 4, none⟩) hg').trans a0
      have hg2 : g < w2.heap.size := Nat.lt_of_lt_of_le hg' hb2.size
      have hz2' := HW2.out.size
      simp only [Nat.one_mul] at a0'
      clear hb2 hB2 hK2 HO HB HKK HTY2 HW H
      go_wp2_with fail
      refine (HRK.out _).mono ?_
      rintro e w3 ⟨rfl, rfl⟩
      have k0 : ¬ 9223372036854775807 < 1 + tb.size := by omega
      have k1 : ¬ 9223372036854775807 < 1 + tb.size + 1 := by omega
      cases hbb : decide (pk b.op < 3) with
      | true =>
        have c1 : decide ((pk b.op : Int) < (3 : Int)) = true := by
          rw [decide_eq_true_iff]
          have := of_decide_eq_true hbb
          omega
        have HPE := Lib.hid (show (⟨#[40]⟩ ++ tb ++ ⟨#[41]⟩ : ByteArray) = pb by
          have := HPb.out
          rw [hbb] at this
          apply ByteArray.ext
          apply Array.toList_inj.1
          rw [this]
          simp [parX, HTb.out])
        clear hbb
        go_wp2_with (at_builtin; refine wpList_append_lies _ rfl _ _ 42 rfl (w.heap.size + 1) 9 i0 (.string ⟨#[]⟩) 1 16 Tryz.underlying42 HI.out HZ0.out HZ1.out HZ2.out rfl (by decide) _ _ _ rfl (owns_belowP HO2.out ((Below.refl w2.heap.size w2).alloc (Nat.le_refl _) (.cells #[.string (⟨#[40]⟩ ++ tb ++ ⟨#[41]⟩)] 9))) ⟨w2.heap.size, 0, none⟩ 1 1 [.string (⟨#[40]⟩ ++ tb ++ ⟨#[41]⟩)] rfl rfl ?c1 ?c2 (by omega) ?c3 ?c4 ?c5 (w2.heap.size + 1) (by simp) ?_)
        case c1 => intro j u hj; exact cell_addP (Bx.new w2 9 [.string (⟨#[40]⟩ ++ tb ++ ⟨#[41]⟩)]) hj
        case c2 => intro u hu; simp only [List.mem_cons, List.not_mem_nil, or_false] at hu; subst hu; rfl
        case c3 => unfold maxLen; omega
        case c4 => omega
        case c5 => simp; omega
        intro g2 cap2 w4 hown4 hgrow4 hat4 hlt4
        rw [HPE.out] at hown4 hgrow4
        rw [← List.map_take] at hown4
        have HR4 := Lib.hid (pr_stepF (k := 1) (z := 1 + 1) (t := pb) (by simp) (by simp) (by rw [HTS.out]; exact ⟨by simp, HPb.out⟩) HO2.out HB2.out HK2.out HW2.out HTY3.out hown4 hgrow4)
        clear hown4 hgrow4 hat4
        go_wp2
        go_roundw
        case rel => exact HR4.out
        case measure => simp [intOf]
      | false =>
        have c1 : decide ((pk b.op : Int) < (3 : Int)) = false := by
          rw [decide_eq_false_iff_not]
          have := of_decide_eq_false hbb
          omega
        have HPE := Lib.hid (show tb = pb by
          have := HPb.out
          rw [hbb] at this
          apply ByteArray.ext
          apply Array.toList_inj.1
          rw [this]
          simp [parX, HTb.out])
        clear hbb
        go_wp2_with (at_builtin; refine wpList_append_lies _ rfl _ _ 42 rfl (w.heap.size + 1) 9 i0 (.string ⟨#[]⟩) 1 16 Tryz.underlying42 HI.out HZ0.out HZ1.out HZ2.out rfl (by decide) _ _ _ rfl (owns_belowP HO2.out ((Below.refl w2.heap.size w2).alloc (Nat.le_refl _) (.cells #[.string tb] 9))) ⟨w2.heap.size, 0, none⟩ 1 1 [.string tb] rfl rfl ?c1 ?c2 (by omega) ?c3 ?c4 ?c5 (w2.heap.size + 1) (by simp) ?_)
        case c1 => intro j u hj; exact cell_addP (Bx.new w2 9 [.string tb]) hj
        case c2 => intro u hu; simp only [List.mem_cons, List.not_mem_nil, or_false] at hu; subst hu; rfl
        case c3 => unfold maxLen; omega
        case c4 => omega
        case c5 => simp; omega
        intro g2 cap2 w4 hown4 hgrow4 hat4 hlt4
        rw [HPE.out] at hown4 hgrow4
        rw [← List.map_take] at hown4
        have HR4 := Lib.hid (pr_stepF (k := 1) (z := 1 + 1) (t := pb) (by simp) (by simp) (by rw [HTS.out]; exact ⟨by simp, HPb.out⟩) HO2.out HB2.out HK2.out HW2.out HTY3.out hown4 hgrow4)
        clear hown4 hgrow4 hat4
        go_wp2
        go_roundw
        case rel => exact HR4.out
        case measure => simp [intOf]
    · obtain ⟨g9, hA1, hlg, hcell⟩ := own_atP hO (by decide)
      have hA1' := hA1
      subst hA1
      have q0 := hcell 0 (.string pa) (by rw [HTS.out, strV_eq HPa.out]; rfl)
      have q1 := hcell 1 (.string pb) (by rw [HTS.out, strV_eq HPb.out]; rfl)
      have HW := Lib.hid hw
      clear hO hB hK hTy hw hcell hA1'
      have k0 : ¬ 9223372036854775807 < pa.size + 1 := by omega
      have k1 : ¬ 9223372036854775807 < pa.size + 1 + o.size := by omega
      have k2 : ¬ 9223372036854775807 < pa.size + 1 + o.size + 1 := by omega
      have k3 : ¬ 9223372036854775807 < pa.size + 1 + o.size + 1 + pb.size := by omega
      go_wp2
      go_region
      go_wp2
      go_ret
      exact ⟨ret_strF (by rw [HTL.out]; simp [HPa.out, HPb.out, HO.out]), HW.out.drew⟩

set_option maxHeartbeats 8000000 in
set_option maxRecDepth 100000 in
theorem rfprint_b3 {op : List UInt8} {a b : Fo} {q : Nat} (hr : pk op = 3)  (ha : PrCF a) (hb : PrCF b) : PrCF (.bin op a b q) := by
  intro w S c hH hl
  have hty0 : ∀ A cap, c = FV.c ⟨⟨op.toArray⟩, ⟨#[]⟩, A, 2, cap, (q : Int)⟩ → TyF w A [a, b] := fun A cap hc => by subst hc; exact FS.ty (x := .bin op a b q) hH
  obtain ⟨A, cap, hc, hk⟩ := hH.view
  have hc : c = FV.c ⟨⟨op.toArray⟩, ⟨#[]⟩, A, 2, cap, (q : Int)⟩ := hc
  have hty := hty0 A cap hc
  subst hc
  have hk : FK w 32 S A [a, b] := hk
  obtain ⟨i0, hi0, hz⟩ := Option.map_eq_some_iff.1 infoS
  simp only [Prod.mk.injEq] at hz
  obtain ⟨hz0, hz1, hz2⟩ := hz
  have HI := Lib.hid hi0
  have HZ0 := Lib.hid hz0
  have HZ1 := Lib.hid hz1
  have HZ2 := Lib.hid hz2
  have htl : tlF (.bin op a b q) = parX (decide (pk a.op < 4)) (tlF a) ++ (32 :: op ++ 32 :: parX (decide (pk b.op < 3)) (tlF b)) := by rw [tlF, hr, show loP 3 0 = 4 from rfl, show loP 3 1 = 3 from rfl]
  rw [htl] at hl
  simp only [List.length_append, List.length_cons] at hl
  obtain ⟨ts, hts⟩ : ∃ ts : List (List UInt8), ts = [parX (decide (pk a.op < 4)) (tlF a), parX (decide (pk b.op < 3)) (tlF b)] := ⟨_, rfl⟩
  have hpa := parf_lenZ (decide (pk a.op < 4)) (tlF a)
  obtain ⟨ta, hta, hta2⟩ := str_ofF (tlF a) 1000000 (by omega)
  obtain ⟨pa, hpa1, hpa2⟩ := str_ofF (parX (decide (pk a.op < 4)) (tlF a)) 1000000 (by omega)
  have HTa := Lib.hid hta
  have HPa := Lib.hid hpa1
  have HLa := Lib.hid (show (tlF a).length ≤ 1000000 by omega)
  have hsa : ta.size ≤ 1000000 := hta2
  have hqa : pa.size ≤ 1000000 := hpa2
  have hpb := parf_lenZ (decide (pk b.op < 3)) (tlF b)
  obtain ⟨tb, htb, htb2⟩ := str_ofF (tlF b) 1000000 (by omega)
  obtain ⟨pb, hpb1, hpb2⟩ := str_ofF (parX (decide (pk b.op < 3)) (tlF b)) 1000000 (by omega)
  have HTb := Lib.hid htb
  have HPb := Lib.hid hpb1
  have HLb := Lib.hid (show (tlF b).length ≤ 1000000 by omega)
  have hsb : tb.size ≤ 1000000 := htb2
  have hqb : pb.size ≤ 1000000 := hpb2
  have HTL := Lib.hid htl
  have HTS := Lib.hid hts
  change Calls Tryz.prog 14 #[.agg #[.string ⟨op.toArray⟩, .string ⟨#[]⟩, .slice A 2 cap, .int .i64 (q : Int)]] w _
  have HK := Lib.hid (fun W : World => rfrank_any ⟨op.toArray⟩ W)
  unfold PkP at HK
  rw [show (⟨op.toArray⟩ : ByteArray).data.toList = op from rfl, hr] at HK
  have hne : op ≠ opLab := by intro e; rw [e] at hr; exact absurd hr (by decide)
  have g1 : ((⟨op.toArray⟩ : ByteArray).toList == [108, 97, 98, 101, 108]) = false := by rw [ByteArray.toList_eq]; exact beq_eq_false_iff_ne.2 hne
  have g2 : (op == [33]) = false := beq_eq_false_iff_ne.2 (by intro e; rw [e] at hr; exact absurd hr (by decide))
  have g3 : ((⟨op.toArray⟩ : ByteArray).toList == [33]) = false := by rw [ByteArray.toList_eq]; exact g2
  have hos : op.length ≤ 1000000 := by omega
  have HKD : Hid (FK w 32 S A [a, b]) := Lib.hid hk
  have HTY := Lib.hid hty
  have HIH := Lib.hid (show PrCF a ∧ PrCF b from ⟨ha, hb⟩)
  have hba := (Below.refl w.heap.size w).alloc (Nat.le_refl _) (.cells #[.string ⟨op.toArray⟩, .string ⟨#[]⟩, .slice A 2 cap, .int .i64 (q : Int)] 32)
  have HR0 := Lib.hid (show PrRelF ts [a, b] S w A cap ⟨op.toArray⟩ ⟨#[]⟩ (q : Int) (.slice none 0 0) (.int .i64 0) (w.alloc (.cells #[.string ⟨op.toArray⟩, .string ⟨#[]⟩, .slice A 2 cap, .int .i64 (q : Int)] 32)) from
    ⟨0, rfl, Nat.zero_le _, World.ownsRow_nil _ _ _ _, Bx.new w 32 [_, _, _, _], hk.below hba, hty.below hba, hba⟩)
  obtain ⟨o, hoo⟩ : ∃ o : ByteArray, o = ⟨op.toArray⟩ := ⟨_, rfl⟩
  rw [← hoo] at HK g1 HR0 g3 ⊢
  have HO := Lib.hid (show o.data.toList = op by rw [hoo])
  have hosz : o.size ≤ 1000000 := by rw [hoo, ← size_listR]; exact hos
  clear hi0 hz0 hz1 hz2 hH hty0 hty hk htl hts hne hos hba hoo hl hr ha hb hta htb hpa1 hpb1 hpa hpb g2
  go_enter Tryz.func14, Tryz.ntmps14
  go_wp2_with fail
  refine (HK.out _).mono ?_
  rintro e w1 ⟨rfl, rfl⟩
  go_wp2
  go_loopw [4, 5] (fun l i wr => PrRelF ts [a, b] S w A cap o ⟨#[]⟩ (q : Int) l i wr) (fun _ i _ => 2 - (intOf i).toNat)
  case atStart => exact HR0.out
  case round =>
    clear HR0
    obtain ⟨k, rfl, hk, hO, hB, hK, hTy, hw⟩ := hrel
    obtain ⟨A1, cap1, rfl⟩ := own_formP hO
    obtain ⟨b0, b1, b2, b3⟩ := Bx.cells4 hB
    have hbl := hB.lt
    have b2 : wr.cell? ⟨w.heap.size, 2, none⟩ = some (.slice A 2 cap) := b2
    have hk : k ≤ 2 := hk
    have hcase : k = 0 ∨ k = 1 ∨ k = 2 := by omega
    rcases hcase with rfl | rfl | rfl
    · obtain ⟨g, ⟨o', nm', P', l', cp', p'⟩, hA0, hg', hH', a0, a1, a2, a3⟩ := hK 0 (by simp)
      have hA0 : A = some ⟨g, 0, none⟩ := hA0
      subst hA0
      have H := Lib.hid (HIH.out.1 wr _ _ hH' HLa.out)
      have ho' : o' = ⟨a.op.toArray⟩ := FS.opn hH'
      have HRK := Lib.hid (fun W : World => rfrank_any o' W)
      unfold PkP at HRK
      rw [show o'.data.toList = a.op by rw [ho']] at HRK
      have HO := Lib.hid hO
      have HB := Lib.hid hB
      have HKK := Lib.hid hK
      have HTY2 := Lib.hid hTy
      have HW := Lib.hid hw
      clear hO hB hK hTy hw hH' ho'
      go_wp2_with fail
      refine (H.out).mono ?_
      rintro e w2 ⟨rfl, hb2⟩
      rw [← strV_eq HTa.out]
      have HO2 := Lib.hid (owns_belowP HO.out hb2)
      have hB2 := HB.out.below hb2
      have HB2 := Lib.hid hB2
      have hK2 := HKK.out.below hb2
      have HK2 := Lib.hid hK2
      have HTY3 := Lib.hid (HTY2.out.below hb2)
      have HW2 := Lib.hid (HW.out.trans (hb2.mono HW.out.size))
      obtain ⟨b0, b1, b2, b3⟩ := Bx.cells4 hB2
      have b2 : w2.cell? ⟨w.heap.size, 2, none⟩ = some (.slice (some ⟨g, 0, none⟩) 2 cap) := b2
      have hbl2 := hB2.lt
      have a0' := (hb2.cell (p := ⟨g, 0 * 4, none⟩) hg').trans a0
      have hg2 : g < w2.heap.size := Nat.lt_of_lt_of_le hg' hb2.size
      have hz2' := HW2.out.size
      simp only [Nat.zero_mul] at a0'
      clear hb2 hB2 hK2 HO HB HKK HTY2 HW H
      go_wp2_with fail
      refine (HRK.out _).mono ?_
      rintro e w3 ⟨rfl, rfl⟩
      have k0 : ¬ 9223372036854775807 < 1 + ta.size := by omega
      have k1 : ¬ 9223372036854775807 < 1 + ta.size + 1 := by omega
      cases hbb : decide (pk a.op < 4) with
      | true =>
        have c1 : decide ((pk a.op : Int) < (4 : Int)) = true := by
          rw [decide_eq_true_iff]
          have := of_decide_eq_true hbb
          omega
        have HPE := Lib.hid (show (⟨#[40]⟩ ++ ta ++ ⟨#[41]⟩ : ByteArray) = pa by
          have := HPa.out
          rw [hbb] at this
          apply ByteArray.ext
          apply Array.toList_inj.1
          rw [this]
          simp [parX, HTa.out])
        clear hbb
        go_wp2_with (at_builtin; refine wpList_append_lies _ rfl _ _ 42 rfl (w.heap.size + 1) 9 i0 (.string ⟨#[]⟩) 1 16 Tryz.underlying42 HI.out HZ0.out HZ1.out HZ2.out rfl (by decide) _ _ _ rfl (owns_belowP HO2.out ((Below.refl w2.heap.size w2).alloc (Nat.le_refl _) (.cells #[.string (⟨#[40]⟩ ++ ta ++ ⟨#[41]⟩)] 9))) ⟨w2.heap.size, 0, none⟩ 1 1 [.string (⟨#[40]⟩ ++ ta ++ ⟨#[41]⟩)] rfl rfl ?c1 ?c2 (by omega) ?c3 ?c4 ?c5 (w2.heap.size + 1) (by simp) ?_)
        case c1 => intro j u hj; exact cell_addP (Bx.new w2 9 [.string (⟨#[40]⟩ ++ ta ++ ⟨#[41]⟩)]) hj
        case c2 => intro u hu; simp only [List.mem_cons, List.not_mem_nil, or_false] at hu; subst hu; rfl
        case c3 => unfold maxLen; omega
        case c4 => omega
        case c5 => simp; omega
        intro g2 cap2 w4 hown4 hgrow4 hat4 hlt4
        rw [HPE.out] at hown4 hgrow4
        have HR4 := Lib.hid (pr_stepF (k := 0) (z := 0 + 1) (t := pa) (by simp) (by simp) (by rw [HTS.out]; exact ⟨by simp, HPa.out⟩) HO2.out HB2.out HK2.out HW2.out HTY3.out hown4 hgrow4)
        clear hown4 hgrow4 hat4
        go_wp2
        go_roundw
        case rel => exact HR4.out
        case measure => simp [intOf]
      | false =>
        have c1 : decide ((pk a.op : Int) < (4 : Int)) = false := by
          rw [decide_eq_false_iff_not]
          have := of_decide_eq_false hbb
          omega
        have HPE := Lib.hid (show ta = pa by
          have := HPa.out
          rw [hbb] at this
          apply ByteArray.ext
          apply Array.toList_inj.1
          rw [this]
          simp [parX, HTa.out])
        clear hbb
        go_wp2_with (at_builtin; refine wpList_append_lies _ rfl _ _ 42 rfl (w.heap.size + 1) 9 i0 (.string ⟨#[]⟩) 1 16 Tryz.underlying42 HI.out HZ0.out HZ1.out HZ2.out rfl (by decide) _ _ _ rfl (owns_belowP HO2.out ((Below.refl w2.heap.size w2).alloc (Nat.le_refl _) (.cells #[.string ta] 9))) ⟨w2.heap.size, 0, none⟩ 1 1 [.string ta] rfl rfl ?c1 ?c2 (by omega) ?c3 ?c4 ?c5 (w2.heap.size + 1) (by simp) ?_)
        case c1 => intro j u hj; exact cell_addP (Bx.new w2 9 [.string ta]) hj
        case c2 => intro u hu; simp only [List.mem_cons, List.not_mem_nil, or_false] at hu; subst hu; rfl
        case c3 => unfold maxLen; omega
        case c4 => omega
        case c5 => simp; omega
        intro g2 cap2 w4 hown4 hgrow4 hat4 hlt4
        rw [HPE.out] at hown4 hgrow4
        have HR4 := Lib.hid (pr_stepF (k := 0) (z := 0 + 1) (t := pa) (by simp) (by simp) (by rw [HTS.out]; exact ⟨by simp, HPa.out⟩) HO2.out HB2.out HK2.out HW2.out HTY3.out hown4 hgrow4)
        clear hown4 hgrow4 hat4
        go_wp2
        go_roundw
        case rel => exact HR4.out
        case measure => simp [intOf]
    · obtain ⟨g, ⟨o', nm', P', l', cp', p'⟩, hA0, hg', hH', a0, a1, a2, a3⟩ := hK 1 (by simp)
      have hA0 : A = some ⟨g, 0, none⟩ := hA0
      subst hA0
      have H := Lib.hid (HIH.out.2 wr _ _ hH' HLb.out)
      have ho' : o' = ⟨b.op.toArray⟩ := FS.opn hH'
      have HRK := Lib.hid (fun W : World => rfrank_any o' W)
      unfold PkP at HRK
      rw [show o'.data.toList = b.op by rw [ho']] at HRK
      have HO := Lib.hid hO
      have HB := Lib.hid hB
      have HKK := Lib.hid hK
      have HTY2 := Lib.hid hTy
      have HW := Lib.hid hw
      clear hO hB hK hTy hw hH' ho'
      go_wp2_with fail
      refine (H.out).mono ?_
      rintro e w2 ⟨rfl, hb2⟩
      rw [← strV_eq HTb.out]
      have HO2 := Lib.hid (owns_belowP HO.out hb2)
      have hB2 := HB.out.below hb2
      have HB2 := Lib.hid hB2
      have hK2 := HKK.out.below hb2
      have HK2 := Lib.hid hK2
      have HTY3 := Lib.hid (HTY2.out.below hb2)
      have HW2 := Lib.hid (HW.out.trans (hb2.mono HW.out.size))
      obtain ⟨b0, b1, b2, b3⟩ := Bx.cells4 hB2
      have b2 : w2.cell? ⟨w.heap.size, 2, none⟩ = some (.slice (some ⟨g, 0, none⟩) 2 cap) := b2
      have hbl2 := hB2.lt
      have a0' := (hb2.cell (p := ⟨g, 1 * 4, none⟩) hg').trans a0
      have hg2 : g < w2.heap.size := Nat.lt_of_lt_of_le hg' hb2.size
      have hz2' := HW2.out.size
      simp only [Nat.one_mul] at a0'
      clear hb2 hB2 hK2 HO HB HKK HTY2 HW H
      go_wp2_with fail
      refine (HRK.out _).mono ?_
      rintro e w3 ⟨rfl, rfl⟩
      have k0 : ¬ 9223372036854775807 < 1 + tb.size := by omega
      have k1 : ¬ 9223372036854775807 < 1 + tb.size + 1 := by omega
      cases hbb : decide (pk b.op < 3) with
      | true =>
        have c1 : decide ((pk b.op : Int) < (3 : Int)) = true := by
          rw [decide_eq_true_iff]
          have := of_decide_eq_true hbb
          omega
        have HPE := Lib.hid (show (⟨#[40]⟩ ++ tb ++ ⟨#[41]⟩ : ByteArray) = pb by
          have := HPb.out
          rw [hbb] at this
          apply ByteArray.ext
          apply Array.toList_inj.1
          rw [this]
          simp [parX, HTb.out])
        clear hbb
        go_wp2_with (at_builtin; refine wpList_append_lies _ rfl _ _ 42 rfl (w.heap.size + 1) 9 i0 (.string ⟨#[]⟩) 1 16 Tryz.underlying42 HI.out HZ0.out HZ1.out HZ2.out rfl (by decide) _ _ _ rfl (owns_belowP HO2.out ((Below.refl w2.heap.size w2).alloc (Nat.le_refl _) (.cells #[.string (⟨#[40]⟩ ++ tb ++ ⟨#[41]⟩)] 9))) ⟨w2.heap.size, 0, none⟩ 1 1 [.string (⟨#[40]⟩ ++ tb ++ ⟨#[41]⟩)] rfl rfl ?c1 ?c2 (by omega) ?c3 ?c4 ?c5 (w2.heap.size + 1) (by simp) ?_)
        case c1 => intro j u hj; exact cell_addP (Bx.new w2 9 [.string (⟨#[40]⟩ ++ tb ++ ⟨#[41]⟩)]) hj
        case c2 => intro u hu; simp only [List.mem_cons, List.not_mem_nil, or_false] at hu; subst hu; rfl
        case c3 => unfold maxLen; omega
        case c4 => omega
        case c5 => simp; omega
        intro g2 cap2 w4 hown4 hgrow4 hat4 hlt4
        rw [HPE.out] at hown4 hgrow4
        rw [← List.map_take] at hown4
        have HR4 := Lib.hid (pr_stepF (k := 1) (z := 1 + 1) (t := pb) (by simp) (by simp) (by rw [HTS.out]; exact ⟨by simp, HPb.out⟩) HO2.out HB2.out HK2.out HW2.out HTY3.out hown4 hgrow4)
        clear hown4 hgrow4 hat4
        go_wp2
        go_roundw
        case rel => exact HR4.out
        case measure => simp [intOf]
      | false =>
        have c1 : decide ((pk b.op : Int) < (3 : Int)) = false := by
          rw [decide_eq_false_iff_not]
          have := of_decide_eq_false hbb
          omega
        have HPE := Lib.hid (show tb = pb by
          have := HPb.out
          rw [hbb] at this
          apply ByteArray.ext
          apply Array.toList_inj.1
          rw [this]
          simp [parX, HTb.out])
        clear hbb
        go_wp2_with (at_builtin; refine wpList_append_lies _ rfl _ _ 42 rfl (w.heap.size + 1) 9 i0 (.string ⟨#[]⟩) 1 16 Tryz.underlying42 HI.out HZ0.out HZ1.out HZ2.out rfl (by decide) _ _ _ rfl (owns_belowP HO2.out ((Below.refl w2.heap.size w2).alloc (Nat.le_refl _) (.cells #[.string tb] 9))) ⟨w2.heap.size, 0, none⟩ 1 1 [.string tb] rfl rfl ?c1 ?c2 (by omega) ?c3 ?c4 ?c5 (w2.heap.size + 1) (by simp) ?_)
        case c1 => intro j u hj; exact cell_addP (Bx.new w2 9 [.string tb]) hj
        case c2 => intro u hu; simp only [List.mem_cons, List.not_mem_nil, or_false] at hu; subst hu; rfl
        case c3 => unfold maxLen; omega
        case c4 => omega
        case c5 => simp; omega
        intro g2 cap2 w4 hown4 hgrow4 hat4 hlt4
        rw [HPE.out] at hown4 hgrow4
        rw [← List.map_take] at hown4
        have HR4 := Lib.hid (pr_stepF (k := 1) (z := 1 + 1) (t := pb) (by simp) (by simp) (by rw [HTS.out]; exact ⟨by simp, HPb.out⟩) HO2.out HB2.out HK2.out HW2.out HTY3.out hown4 hgrow4)
        clear hown4 hgrow4 hat4
        go_wp2
        go_roundw
        case rel => exact HR4.out
        case measure => simp [intOf]
    · obtain ⟨g9, hA1, hlg, hcell⟩ := own_atP hO (by decide)
      have hA1' := hA1
      subst hA1
      have q0 := hcell 0 (.string pa) (by rw [HTS.out, strV_eq HPa.out]; rfl)
      have q1 := hcell 1 (.string pb) (by rw [HTS.out, strV_eq HPb.out]; rfl)
      have HW := Lib.hid hw
      clear hO hB hK hTy hw hcell hA1'
      have k0 : ¬ 9223372036854775807 < pa.size + 1 := by omega
      have k1 : ¬ 9223372036854775807 < pa.size + 1 + o.size := by omega
      have k2 : ¬ 9223372036854775807 < pa.size + 1 + o.size + 1 := by omega
      have k3 : ¬ 9223372036854775807 < pa.size + 1 + o.size + 1 + pb.size := by omega
      go_wp2
      go_region
      go_wp2
      go_ret
      exact ⟨ret_strF (by rw [HTL.out]; simp [HPa.out, HPb.out, HO.out]), HW.out.drew⟩

theorem rfprint_any : ∀ x : Fo, OkF x → PrCF x
  | .leaf op nm q, h => by
    rcases h with ⟨rfl, _⟩ | ⟨ho, rfl⟩
    · exact rfprint_lab
    · exact rfprint_word ho
  | .un op a q, h => by
    by_cases hn : op = [33]
    · exact rfprint_not h.1 hn (rfprint_any a h.2)
    · exact rfprint_un h.1 hn (rfprint_any a h.2)
  | .bin op a b q, h => by
    have ha := rfprint_any a h.2.1
    have hb := rfprint_any b h.2.2
    have h4 : pk op < 4 := h.1
    have : pk op = 0 ∨ pk op = 1 ∨ pk op = 2 ∨ pk op = 3 := by omega
    rcases this with hr | hr | hr | hr
    · exact rfprint_b0 hr ha hb
    · exact rfprint_b1 hr ha hb
    · exact rfprint_b2 hr ha hb
    · exact rfprint_b3 hr ha hb
end Go.Proofs.YtjhicgllofjpoaaGreatDoor
