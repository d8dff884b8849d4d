/-
  An expression told: walked. An expression with kids told, and Print: walked.
-/
import Derived.Test.YtodijgndbjfbgaaGreatDoorXB
import Derived.Test.YtodijgndbjfbgaaGreatDoorQQ
import Derived.Laws.BytesArg
namespace Go.Proofs.YtodijgndbjfbgaaGreatDoor
section
open Go.RowKit Go.Sort

theorem kid_any {x : Ex} (ih : TC x) {B : Nat} {w : World} {v : Value} {l : List UInt8} {S : Nat → Prop} {o nm : ByteArray} {n p : Int} {A : Option Addr} {ll cap : Nat} (ht : Txt B w v l) (hH : HS w 57 S x (exC o nm n A ll cap p)) (hT : Tab B w) (r : Nat) (hl : l.length + (parX (decide (rk x.op < r)) (shw x)).length ≤ 1000000) :
    Calls Tryz.prog 137 #[v, .agg #[.string o, .string nm, .int .i64 n, .slice A ll cap, .int .i64 p], .int .i64 (r : Int)] w (TellP B l (parX (decide (rk x.op < r)) (shw x)) w v) := by
  by_cases hr : rk x.op < r
  · rw [decide_eq_true hr] at hl ⊢
    exact kid_par ih ht hH hT (by simp [parX] at hl; omega) r hr
  · rw [decide_eq_false hr] at hl ⊢
    exact kid_plain ih ht hH hT (by simp [parX] at hl; omega) r (by omega)
/-- What stands ahead of a kid, and the kid. -/
def segX (op : List UInt8) (ks : List Ex) (i : Nat) : List UInt8 := (sgnsX op).getD i [] ++ (match ks[i]? with | some k => parX (decide (rk k.op < lo (rk op) i)) (shw k) | none => [])
def preS (op : List UInt8) (ks : List Ex) : Nat → List UInt8
  | 0 => []
  | k + 1 => preS op ks k ++ segX op ks k
theorem preS_le (op : List UInt8) (ks : List Ex) {j k : Nat} (h : j ≤ k) : (preS op ks j).length ≤ (preS op ks k).length := by
  induction k with
  | zero => have : j = 0 := by omega
            subst this; exact Nat.le_refl _
  | succ k ih =>
    by_cases he : j = k + 1
    · subst he; exact Nat.le_refl _
    · have := ih (by omega)
      simp only [preS, List.length_append]
      omega
/-- With kids: as many as signs. -/
structure Kd (x : Ex) : Prop where
  len : (sgnsX x.op).length = x.kids.length
  all : shw x = preS x.op x.kids x.kids.length
  rank : rk x.op < 9
  op : x.op.length ≤ 3
  sgn : ∀ i, ((sgnsX x.op).getD i []).length ≤ 5
theorem op_len {x : List UInt8} (h : rk x < 9) : x.length ≤ 3 := by
  unfold rk at h
  repeat' split at h
  all_goals (first | (simp_all; done) | skip)
  · rename_i hc
    simp only [cmpB, Bool.or_eq_true, beq_iff_eq] at hc
    rcases hc with ((((rfl | rfl) | rfl) | rfl) | rfl) | rfl <;> simp
  · rename_i hc
    rcases hc with rfl | rfl <;> simp
theorem sgn_len {op : List UInt8} (h : op.length ≤ 3) (i : Nat) : ((sgnsX op).getD i []).length ≤ 5 := by
  unfold sgnsX
  split
  · match i with
    | 0 => simp
    | 1 => simp
    | 2 => simp
    | i + 3 => simp
  · split
    · match i with
      | 0 => simp
      | i + 1 => simp
    · split
      · match i with
        | 0 => simp
        | i + 1 => simp
      · match i with
        | 0 => simp
        | 1 => simp; omega
        | i + 2 => simp
theorem kd_un {op : List UInt8} {a : Ex} {p : Nat} (h : op = [33] ∨ op = opNeg) : Kd (.un op a p) := by
  rcases h with rfl | rfl
  · refine ⟨rfl, ?_, (show rk [33] < 9 by decide), (show [(33 : UInt8)].length ≤ 3 by decide), sgn_len (show [(33 : UInt8)].length ≤ 3 by decide)⟩
    have e1 : sgnsX [33] = [[33]] := rfl
    have e2 : rk [33] = 4 := rfl
    simp [shw, preS, segX, Ex.op, Ex.kids, e1, e2, lo, opNeg]
  · refine ⟨rfl, ?_, (show rk opNeg < 9 by decide), (show opNeg.length ≤ 3 by decide), sgn_len (show opNeg.length ≤ 3 by decide)⟩
    have e1 : sgnsX opNeg = [[45]] := rfl
    have e2 : rk opNeg = 8 := rfl
    simp [shw, preS, segX, Ex.op, Ex.kids, e1, e2, lo]
theorem kd_bin {op : List UInt8} {a b : Ex} {p : Nat} (h : rk op = 1 ∨ rk op = 2 ∨ rk op = 3 ∨ rk op = 5 ∨ rk op = 6 ∨ rk op = 7) : Kd (.bin op a b p) := by
  have e1 : sgnsX op = [[], 32 :: op ++ [32]] := by unfold sgnsX; rw [if_neg (by omega), if_neg (by omega), if_neg (by omega)]
  refine ⟨by simp [Ex.op, Ex.kids, e1], ?_, by simp only [Ex.op]; omega, op_len (by simp only [Ex.op]; omega), sgn_len (op_len (by simp only [Ex.op]; omega))⟩
  simp [shw, preS, segX, Ex.op, Ex.kids, e1]
theorem kd_cond {a b c : Ex} {p : Nat} : Kd (.cond a b c p) := by
  have e1 : sgnsX [63] = [[], [32, 63, 32], [32, 58, 32]] := rfl
  have e2 : rk [63] = 0 := rfl
  refine ⟨rfl, ?_, (show rk [63] < 9 by decide), (show [(63 : UInt8)].length ≤ 3 by decide), sgn_len (show [(63 : UInt8)].length ≤ 3 by decide)⟩
  simp [shw, preS, segX, Ex.op, Ex.kids, e1, e2, lo, parX]
set_option maxHeartbeats 1000000 in
theorem tell_num (n p : Nat) (hn : n < 9223372036854775808) : TC (.leaf opNum [] n p) := by
  intro B w v l S c ht hH hT hl
  obtain rfl : c = _ := hH
  have hba : Below w.heap.size w (w.alloc (.cells #[.string ⟨#[110, 117, 109]⟩, .string ⟨#[]⟩, .int .i64 (n : Int), .slice none 0 0, .int .i64 (p : Int)] 57)) := (Below.refl _ _).alloc (Nat.le_refl _) _
  have H2 := Lib.hid (appint_any (n := n) (ht.below hba) (hT.below ht.low hba).now hn (by omega))
  have HBA := Lib.hid hba
  have hs : shw (.leaf opNum [] n p) = dgs n := rfl
  rw [hs]
  change Calls Tryz.prog 117 #[v, .agg #[.string ⟨#[110, 117, 109]⟩, .string ⟨#[]⟩, .int .i64 (n : Int), .slice none 0 0, .int .i64 (p : Int)]] w _
  clear ht hT hl hba hs
  go_enter Tryz.func117, Tryz.ntmps117
  go_wp2_with fail
  refine (H2.out).mono ?_
  rintro e w1 ⟨v', rfl, h1, h2, h3⟩
  have H3 := Lib.hid h1
  have H4 := Lib.hid h2
  have H5 := Lib.hid h3
  clear h1 h2 h3
  go_wp2
  go_ret
  exact ⟨v', rfl, H3.out, grow_trans (v1 := v) (grow_below HBA.out _) (Lies.refl _ _) H4.out, (Lies.refl w v).trans HBA.out.size H5.out⟩
set_option maxHeartbeats 1000000 in
theorem tell_name (nm : List UInt8) (p : Nat) : TC (.leaf opName nm 0 p) := by
  intro B w v l S c ht hH hT hl
  obtain rfl : c = _ := hH
  have hba : Below w.heap.size w (w.alloc (.cells #[.string ⟨#[110, 97, 109, 101]⟩, .string ⟨nm.toArray⟩, .int .i64 0, .slice none 0 0, .int .i64 (p : Int)] 57)) := (Below.refl _ _).alloc (Nat.le_refl _) _
  have HT := Lib.hid (ht.below hba)
  have HBA := Lib.hid hba
  have hs : shw (.leaf opName nm 0 p) = nm := by simp [shw, opName, opNum]
  rw [hs] at hl ⊢
  change Calls Tryz.prog 117 #[v, .agg #[.string ⟨#[110, 97, 109, 101]⟩, .string ⟨nm.toArray⟩, .int .i64 0, .slice none 0 0, .int .i64 (p : Int)]] w _
  have hl2 : l.length + (⟨nm.toArray⟩ : ByteArray).size ≤ 1000000000 := by show l.length + nm.toArray.size ≤ _; simp; omega
  clear ht hT hl hba hs
  go_enter Tryz.func117, Tryz.ntmps117
  go_wp2_with (at_builtin; refine wpList_str _ rfl _ _ rfl rfl HT.out _ rfl hl2 ?_; intro v' w' h1 h2 h3)
  go_ret
  exact ⟨v', rfl, h1, grow_trans (v1 := v) (grow_below HBA.out _) (Lies.refl _ _) h2, (Lies.refl w v).trans HBA.out.size h3⟩
set_option maxHeartbeats 1000000 in
theorem tell_word (op : List UInt8) (p : Nat) (ho : op = opTrue ∨ op = opFalse) : TC (.leaf op [] 0 p) := by
  intro B w v l S c ht hH hT hl
  obtain rfl : c = _ := hH
  have hs : shw (.leaf op [] 0 p) = op := by rcases ho with rfl | rfl <;> rfl
  rw [hs] at hl ⊢
  have hr : rk op = 9 := by rcases ho with rfl | rfl <;> rfl
  have ho1 : op ≠ opNum := by rcases ho with rfl | rfl <;> decide
  have ho2 : op ≠ opName := by rcases ho with rfl | rfl <;> decide
  have hlen : op.length ≤ 5 := by rcases ho with rfl | rfl <;> decide
  have H1 := Lib.hid (rankof_any ⟨op.toArray⟩)
  unfold RkP at H1
  have e1 : rk (⟨op.toArray⟩ : ByteArray).data.toList = 9 := hr
  rw [e1] at H1
  have hba : Below w.heap.size w (w.alloc (.cells #[.string ⟨op.toArray⟩, .string ⟨#[]⟩, .int .i64 0, .slice none 0 0, .int .i64 (p : Int)] 57)) := (Below.refl _ _).alloc (Nat.le_refl _) _
  have HT := Lib.hid (ht.below hba)
  have HBA := Lib.hid hba
  change Calls Tryz.prog 117 #[v, .agg #[.string ⟨op.toArray⟩, .string ⟨#[]⟩, .int .i64 0, .slice none 0 0, .int .i64 (p : Int)]] w _
  have hl2 : l.length + (⟨op.toArray⟩ : ByteArray).size ≤ 1000000000 := by show l.length + op.toArray.size ≤ _; simp; omega
  have g1 : ((⟨op.toArray⟩ : ByteArray).toList == [110, 117, 109]) = false := by rw [ByteArray.toList_eq]; simpa [opNum] using ho1
  have g2 : ((⟨op.toArray⟩ : ByteArray).toList == [110, 97, 109, 101]) = false := by rw [ByteArray.toList_eq]; simpa [opName] using ho2
  have HOP := Lib.hid (show (⟨op.toArray⟩ : ByteArray).data.toList = op from rfl)
  clear ht hT hl hba hs ho ho1 ho2 hlen hr e1
  generalize (⟨op.toArray⟩ : ByteArray) = ob at *
  go_enter Tryz.func117, Tryz.ntmps117
  go_wp2_with (first
    | ((with_reducible refine (H1.out _).mono ?_); rintro e w' ⟨rfl, rfl⟩)
    | (at_builtin; refine wpList_str _ rfl _ _ rfl rfl HT.out _ rfl hl2 ?_; intro v' w' h1 h2 h3))
  go_ret
  rw [HOP.out] at h1
  exact ⟨v', rfl, h1, grow_trans (v1 := v) (grow_below HBA.out _) (Lies.refl _ _) h2, (Lies.refl w v).trans HBA.out.size h3⟩
/-- What the rounds over the kids keep. -/
def TlRel (B : Nat) (x : Ex) (S : Nat → Prop) (l : List UInt8) (w : World) (v : Value) (gs : Nat) (o nm : ByteArray) (n : Int) (A : Option Addr) (cap : Nat) (p : Int) (t i : Value) (wr : World) : Prop :=
  ∃ k : Nat, i = .int .i64 (k : Int) ∧ k ≤ x.kids.length ∧ Txt B wr t (l ++ preS x.op x.kids k) ∧ w.grownBy wr v.ownBlock ∧ Lies w v t ∧ Box wr w.heap.size (.string o) (.string nm) (.int .i64 n) (.slice A x.kids.length cap) (.int .i64 p) ∧ wr.heap[gs]? = some (.cells ((sgnsX x.op).map strV).toArray 9 (0, 0)) ∧ HS wr 57 S x (exC o nm n A x.kids.length cap p) ∧ Tab B wr
theorem HS.kr {w : World} {S : Nat → Prop} {A : Option Addr} {x : Ex} {o nm : ByteArray} {n : Int} {cap ll : Nat} {p : Int} (h : HS w 57 S x (exC o nm n A ll cap p)) : KR w 57 S A x.kids := by
  obtain ⟨A', cap', h1, h2⟩ := h.view
  simp only [exC, List.cons.injEq, Value.slice.injEq] at h1
  rw [h1.2.2.2.1.1]
  exact h2
theorem sign_cell {w : World} {gs : Nat} {ss : List (List UInt8)} (h : w.heap[gs]? = some (.cells (ss.map strV).toArray 9 (0, 0))) {k : Nat} (hk : k < ss.length) : w.cell? ⟨gs, k, none⟩ = some (.string ⟨(ss.getD k []).toArray⟩) := by
  rw [rd_cell h]
  simp [hk, strV]
end
section
open Go.RowKit Go.Sort

theorem grow_drew {w w1 : World} {r : Option Nat} (h : w.grownBy w1 r) : w.grownBy w1.drew r := ⟨h.os, h.tape, h.output, h.size, h.block⟩
set_option maxHeartbeats 4000000 in
set_option maxRecDepth 100000 in
theorem tell_kids {x : Ex} (hk : Kd x) (ih : ∀ k ∈ x.kids, TC k) : TC x := by
  intro B w v l S c ht hH hT hl
  obtain ⟨A, cap, rfl, hkr0⟩ := hH.view
  clear hkr0
  have hr9 := hk.rank
  have ho1 : x.op ≠ opNum := fun e => by rw [e] at hr9; exact absurd hr9 (by decide)
  have ho2 : x.op ≠ opName := fun e => by rw [e] at hr9; exact absurd hr9 (by decide)
  have g1 : ((⟨x.op.toArray⟩ : ByteArray).toList == [110, 117, 109]) = false := by rw [ByteArray.toList_eq]; simpa [opNum] using ho1
  have g2 : ((⟨x.op.toArray⟩ : ByteArray).toList == [110, 97, 109, 101]) = false := by rw [ByteArray.toList_eq]; simpa [opName] using ho2
  have g3 : ((rk x.op : Int) == 9) = false := by rw [beq_eq_false_iff_ne]; omega
  have H1 := Lib.hid (rankof_any ⟨x.op.toArray⟩)
  unfold RkP at H1
  have e1 : rk (⟨x.op.toArray⟩ : ByteArray).data.toList = rk x.op := rfl
  rw [e1] at H1
  have hsz : (⟨x.op.toArray⟩ : ByteArray).size ≤ 65536 := by show x.op.toArray.size ≤ _; have := hk.op; simp; omega
  have H2 := Lib.hid (signs_any ⟨x.op.toArray⟩ hsz)
  have H3 := Lib.hid (loosest_any ⟨x.op.toArray⟩)
  have hba : Below w.heap.size w (w.alloc (.cells #[.string ⟨x.op.toArray⟩, .string ⟨x.nm.toArray⟩, .int .i64 (x.num : Int), .slice A x.kids.length cap, .int .i64 (x.pos : Int)] 57)) := (Below.refl _ _).alloc (Nat.le_refl _) _
  have HBA := Lib.hid hba
  have HBX := Lib.hid (Box.new w (.string ⟨x.op.toArray⟩) (.string ⟨x.nm.toArray⟩) (.int .i64 (x.num : Int)) (.slice A x.kids.length cap) (.int .i64 (x.pos : Int)))
  have HT := Lib.hid ht
  have HH := Lib.hid hH
  have HTB := Lib.hid hT
  have HKD := Lib.hid hk
  have HIH := Lib.hid ih
  have HN := Lib.hid (kids_three x)
  change Calls Tryz.prog 117 #[v, .agg #[.string ⟨x.op.toArray⟩, .string ⟨x.nm.toArray⟩, .int .i64 (x.num : Int), .slice A x.kids.length cap, .int .i64 (x.pos : Int)]] w _
  rw [hk.all] at hl ⊢
  clear ht hH hT hba ho1 ho2 hr9 e1 hk ih hsz
  have e2 : (⟨x.op.toArray⟩ : ByteArray).data.toList = x.op := rfl
  rw [e2] at H2 H3
  clear e2
  generalize (⟨x.op.toArray⟩ : ByteArray) = o at *
  generalize (⟨x.nm.toArray⟩ : ByteArray) = nm at *
  generalize (x.num : Int) = n at *
  generalize (x.pos : Int) = p at *
  obtain ⟨N, hN⟩ : ∃ N, N = x.kids.length := ⟨_, rfl⟩
  have HNN := Lib.hid hN
  have hN3 : N ≤ 3 := by rw [hN]; exact HN.out
  have hlen : (sgnsX x.op).length = N := by rw [hN]; exact HKD.out.len
  have HLEN := Lib.hid hlen
  rw [← hN] at hl HBX HBA HH ⊢
  clear hN hlen
  go_enter Tryz.func117, Tryz.ntmps117
  go_wp2_with fail
  with_reducible refine (H1.out _).mono ?_
  rintro e w' ⟨rfl, rfl⟩
  go_wp2_with fail
  refine (H2.out _).mono ?_
  rintro e w1 ⟨gs, rfl, hgs, hgh, hb1⟩
  have HB1 := Lib.hid (HBA.out.trans (hb1.mono HBA.out.size))
  have HBX1 := Lib.hid (HBX.out.below hb1)
  have HGS := Lib.hid hgh
  rw [HLEN.out]
  clear hgs hgh hb1
  have HT1 := Lib.hid (HT.out.below HB1.out)
  have HH1 := Lib.hid (HH.out.below HB1.out)
  have HTB1 := Lib.hid (HTB.out.below HT.out.low HB1.out)
  go_wp2
  go_loopw [0, 33] (fun t i wr => TlRel B x S l w v gs o nm n A cap p t i wr) (fun _ i _ => N - (intOf i).toNat)
  case atStart => exact ⟨0, rfl, Nat.zero_le _, by rw [preS, List.append_nil]; exact HT1.out, grow_below HB1.out _, Lies.refl _ _, by rw [← HNN.out]; exact HBX1.out, HGS.out, by rw [← HNN.out]; exact HH1.out, HTB1.out⟩
  case round =>
    obtain ⟨k, rfl, hkn, ht, hg, hli, hbx, hsg, hh, htb⟩ := hrel
    rw [← HNN.out] at hkn hbx hh
    by_cases hlt : k < N
    · have c4 : decide ((k : Int) < (N : Int)) = true := by simp; omega
      have c5 : decide (k < N) = true := by simpa using hlt
      have cs := sign_cell hsg (by rw [HLEN.out]; exact hlt)
      have kk : k < x.kids.length := by rw [← HNN.out]; exact hlt
      have hseg : segX x.op x.kids k = (sgnsX x.op).getD k [] ++ parX (decide (rk x.kids[k].op < lo (rk x.op) k)) (shw x.kids[k]) := by
        unfold segX; rw [List.getElem?_eq_getElem kk]
      have hpl : (preS x.op x.kids (k + 1)).length ≤ (preS x.op x.kids N).length := preS_le _ _ (by omega)
      have hln : l.length + (preS x.op x.kids k).length + ((sgnsX x.op).getD k []).length + (parX (decide (rk x.kids[k].op < lo (rk x.op) k)) (shw x.kids[k])).length ≤ 1000000 := by
        rw [preS, List.length_append, hseg, List.length_append] at hpl
        omega
      obtain ⟨sgk, hsgk⟩ : ∃ s, s = (sgnsX x.op).getD k [] := ⟨_, rfl⟩
      rw [← hsgk] at cs hln hseg
      have HSEG := Lib.hid hseg
      have hl1 : (l ++ preS x.op x.kids k).length + (⟨sgk.toArray⟩ : ByteArray).size ≤ 1000000000 := by
        show _ + sgk.toArray.size ≤ _
        simp; omega
      obtain ⟨b0, b1, b2, b3, b4⟩ := hbx.cells
      have hbl := hbx.lt
      have HT2 := Lib.hid ht
      have HG2 := Lib.hid hg
      have HL2 := Lib.hid hli
      have HBX2 := Lib.hid hbx
      have HSG2 := Lib.hid hsg
      have HH2 := Lib.hid hh
      have HTB2 := Lib.hid htb
      have HLN := Lib.hid hln
      have HK2 := Lib.hid (HIH.out _ (List.getElem_mem kk))
      clear ht hg hli hbx hsg hh htb hln hseg hsgk hpl
      clear b0 b1 b2 b3 b4
      go_wp2_with (at_builtin; refine wpList_str _ rfl _ _ rfl rfl HT2.out _ rfl hl1 ?_; intro v3 w3 h1 h2 h3; obtain ⟨b0, b1, b2, b3, b4⟩ := (HBX2.out.text HT2.out h2).cells; have hbl3 := (HBX2.out.text HT2.out h2).lt)
      obtain ⟨g, o', nm', m', P', l', cp', p', rfl, hg', hH', a0, a1, a2, a3, a4⟩ := (HH2.out.text HT2.out h2).kr k kk
      have HT3 := Lib.hid h1
      have HG3 := Lib.hid (grow_trans HG2.out HL2.out h2)
      have HL3 := Lib.hid (HL2.out.trans HG2.out.size h3)
      have HBX3 := Lib.hid (HBX2.out.text HT2.out h2)
      have HSG3 := Lib.hid (HT2.out.keep h2 HSG2.out (by decide))
      have HH3 := Lib.hid (HH2.out.text HT2.out h2)
      have HTB3 := Lib.hid (HTB2.out.text HT2.out h2)
      have HKH3 := Lib.hid hH'
      have hk2 : k ≤ 2 := by omega
      clear h1 h2 h3 hH'
      go_region_law (first
        | (go_simp
           go_at_call 138
           refine (H3.out k hk2 _).mono ?_
           rintro e w' ⟨rfl, rfl⟩)
        | (go_simp
           go_at_call 137
           refine (kid_any HK2.out HT3.out.drew HKH3.out.drew HTB3.out.drew (lo (rk x.op) k) (by have := HLN.out; simp at this ⊢; omega)).mono ?_
           rintro e w4 ⟨v4, rfl, h4, h5, h6⟩
           have HT4 := Lib.hid h4
           have HG4 := Lib.hid h5
           have HL4 := Lib.hid h6
           clear h4 h5 h6))
      all_goals
        have hpre : l ++ preS x.op x.kids (k + 1) = l ++ preS x.op x.kids k ++ (⟨sgk.toArray⟩ : ByteArray).data.toList ++ parX (decide (rk x.kids[k].op < lo (rk x.op) k)) (shw x.kids[k]) := by
          rw [preS, HSEG.out]; simp
        have HRL : Hid (TlRel B x S l w v gs o nm n (some ⟨g, 0, none⟩) cap p v4 (.int .i64 ((k : Int) + 1)) w4) :=
          Lib.hid ⟨k + 1, by go_num, by rw [← HNN.out]; omega, by rw [hpre]; exact HT4.out, grow_trans (grow_drew HG3.out) HL3.out HG4.out, HL3.out.trans (grow_drew HG3.out).size HL4.out, by rw [← HNN.out]; exact HBX3.out.drew.text HT3.out.drew HG4.out, HT3.out.drew.keep HG4.out HSG3.out (by decide), by rw [← HNN.out]; exact HH3.out.drew.text HT3.out.drew HG4.out, HTB3.out.drew.text HT3.out.drew HG4.out⟩
        clear hpre
        go_wp2
        go_roundw
        case rel => exact HRL.out
        case measure => simp [intOf]; omega
    · have c4 : decide ((k : Int) < (N : Int)) = false := by simp; omega
      have c5 : decide (k < N) = false := by simpa using hlt
      have hkN : k = N := by omega
      subst hkN
      have HT2 := Lib.hid ht
      have HG2 := Lib.hid hg
      have HL2 := Lib.hid hli
      clear ht hg hli hbx hsg hh htb
      go_wp2
      go_ret
      exact ⟨_, rfl, HT2.out, HG2.out, HL2.out⟩
theorem tell_any : ∀ x : Ex, Ok x → TC x
  | .leaf op nm n p, h => by
    rcases h with ⟨rfl, rfl, h⟩ | ⟨rfl, rfl, _⟩ | ⟨h, rfl, rfl⟩
    · exact tell_num n p h
    · exact tell_name nm p
    · exact tell_word op p h
  | .un op a p, h => tell_kids (kd_un h.1) (by simp only [Ex.kids, List.mem_singleton]; rintro x rfl; exact tell_any x h.2)
  | .bin op a b p, h => tell_kids (kd_bin h.1) (by
      have h1 := tell_any a h.2.1
      have h2 := tell_any b h.2.2
      simp only [Ex.kids, List.mem_cons, List.not_mem_nil, or_false]
      rintro x (rfl | rfl) <;> assumption)
  | .cond a b c p, h => tell_kids kd_cond (by
      have h1 := tell_any a h.1
      have h2 := tell_any b h.2.1
      have h3 := tell_any c h.2.2
      simp only [Ex.kids, List.mem_cons, List.not_mem_nil, or_false]
      rintro x (rfl | rfl | rfl) <;> assumption)
theorem dgs_pos (n : Nat) : 0 < (dgs n).length := by unfold dgs; rw [Lib.decDigits_length]; exact Lib.nDigits_pos n
theorem shw_pos : ∀ x : Ex, Ok x → 0 < (shw x).length
  | .leaf op nm n p, h => by
    rcases h with ⟨rfl, rfl, h⟩ | ⟨rfl, rfl, ⟨⟨c, r, h, _⟩, _⟩, _⟩ | ⟨h, rfl, rfl⟩
    · exact dgs_pos n
    · subst h; simp [shw, opName, opNum]
    · rcases h with rfl | rfl <;> simp [shw, opTrue, opFalse, opNum, opName]
  | .un op a p, _ => by simp [shw]
  | .bin op a b p, _ => by simp [shw]; omega
  | .cond a b c p, _ => by simp [shw]; omega
theorem nums_bytes (l : List UInt8) : strOfNums (l.map fun b => (b.toNat : Int)) = ⟨l.toArray⟩ := by
  unfold strOfNums
  congr 2
  rw [List.map_map]
  conv => rhs; rw [← List.map_id l]
  apply List.map_congr_left
  intro b _
  simp
theorem txt_string {B g n cap : Nat} {w : World} {l : List UInt8} (h : Txt B w (.slice (some ⟨g, 0, none⟩) n cap) l) (hn : n = l.length) : (convert 150 9 (.slice (some ⟨g, 0, none⟩) n cap)).run Tryz.prog w = .ok (.string ⟨l.toArray⟩) w := by
  rw [← nums_bytes]
  refine run_convert_bytes_arg w 150 5 Tryz.underlying150 Tryz.underlying5 g 0 n cap (l.map fun b => (b.toNat : Int)) (by rw [List.length_map, hn]) ?_ 9 Tryz.underlying9
  intro i hi
  have hi' : i < l.length := by omega
  have := h.own.cells (g := g) rfl i (.int .u8 (l[i].toNat : Int)) (by simp [Lib.byteCells, hi'])
  rw [Lib.add_plain] at this
  rw [this]
  simp [hi']
theorem print_any {x : Ex} (hx : Ok x) {S : Nat → Prop} {o nm : ByteArray} {n p : Int} {A : Option Addr} {ll cap : Nat} (w : World) (hH : HS w 57 S x (exC o nm n A ll cap p)) (hT : Tabs w) (hl : (shw x).length ≤ 1000000) :
    Calls Tryz.prog 94 #[.agg #[.string o, .string nm, .int .i64 n, .slice A ll cap, .int .i64 p]] w fun e w' => e = .returned (.string ⟨(shw x).toArray⟩) ∧ Below w.heap.size w w' := by
  have hba : Below w.heap.size w (w.alloc (.cells #[.string o, .string nm, .int .i64 n, .slice A ll cap, .int .i64 p] 57)) := (Below.refl _ _).alloc (Nat.le_refl _) _
  have H := Lib.hid (tell_any x hx w.heap.size _ (.slice none 0 0) [] S _ ⟨World.ownsRow_nil _ _ _ _, hba.size⟩ (hH.below hba) ((Lib.tabBelow_of_tabIs hT).on hba) (by simpa using hl))
  have HBA := Lib.hid hba
  have HP := Lib.hid (shw_pos x hx)
  clear hH hT hba hx
  go_enter Tryz.func94, Tryz.ntmps94
  go_wp2_with fail
  refine (H.out).mono ?_
  rintro e w1 ⟨v', rfl, h1, h2, h3⟩
  rw [List.nil_append] at h1
  obtain ⟨g, cap', rfl, _⟩ := h1.own.form HP.out
  have HS1 := Lib.hid (txt_string h1 rfl)
  have HB1 := Lib.hid (HBA.out.trans ((show Below w.heap.size _ _ from (Below.refl _ _).grown h2 HBA.out.size (fun k hk => by cases hk))))
  clear h1 h2 h3
  generalize (shw x).length = N at *
  have hcv := HS1.out
  go_wp2
  go_ret
  exact ⟨rfl, HB1.out⟩
end
end Go.Proofs.YtodijgndbjfbgaaGreatDoor
