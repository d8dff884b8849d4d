/-
  A formula told, and Print: walked.
-/
import Derived.Test.YtjhicgllofjpoaaGreatDoorJs
import Derived.Test.YtjhicgllofjpoaaGreatDoorXC
import Derived.Test.YtjhicgllofjpoaaGreatDoorJa
namespace Go.Proofs.YtjhicgllofjpoaaGreatDoor
open Go.RowKit Go.Sort

theorem fkid_any {x : Fo} (ih : TCF x) {B : Nat} {w : World} {v : Value} {l : List UInt8} {S : Nat → Prop} {o nm : ByteArray} {p : Int} {A : Option Addr} {ll cap : Nat} (ht : Txt B w v l) (hH : FS w 25 S x (FV.c ⟨o, nm, A, ll, cap, p⟩)) (r : Nat) (hl : l.length + (parX (decide (pk x.op < r)) (tlF x)).length ≤ 1000000) :
    Calls Tryz.prog 58 #[v, .agg #[.string o, .string nm, .slice A ll cap, .int .i64 p], .int .i64 (r : Int)] w (TellP B l (parX (decide (pk x.op < r)) (tlF x)) w v) := by
  by_cases hr : pk x.op < r
  · rw [decide_eq_true hr] at hl ⊢
    exact fkid_par ih ht hH (by simp [parX] at hl; omega) r hr
  · rw [decide_eq_false hr] at hl ⊢
    exact fkid_plain ih ht hH (by simp [parX] at hl; omega) r (by omega)
/-- What stands ahead of a kid, and the kid. -/
def segF (op : List UInt8) (ks : List Fo) (i : Nat) : List UInt8 := (sgF op).getD i [] ++ (match ks[i]? with | some k => parX (decide (pk k.op < loP (pk op) i)) (tlF k) | none => [])
def preF (op : List UInt8) (ks : List Fo) : Nat → List UInt8
  | 0 => []
  | k + 1 => preF op ks k ++ segF op ks k
theorem preF_le (op : List UInt8) (ks : List Fo) {j k : Nat} (h : j ≤ k) : (preF op ks j).length ≤ (preF op ks k).length := by
  induction k with
  | zero => have : j = 0 := by omega
            subst this; exact Nat.le_refl _
  | succ k ih =>
    by_cases he : j = k + 1
    · subst he; exact Nat.le_refl _
    · have := ih (by omega)
      simp only [preF, List.length_append]
      omega
/-- With kids: as many as signs. -/
structure KdF (x : Fo) : Prop where
  len : (sgF x.op).length = x.kids.length
  all : tlF x = preF x.op x.kids x.kids.length
  rank : pk x.op < 5
  op : x.op.length ≤ 2
theorem pk_len {x : List UInt8} (h : pk x < 5) : x.length ≤ 2 := by
  unfold pk at h
  repeat' split at h
  all_goals (first | (rename_i hc; rcases hc with rfl | rfl | rfl | rfl <;> simp; done) | (rename_i hc; rcases hc with rfl | rfl | rfl <;> simp; done) | (rename_i hc; subst hc; simp; done) | omega)
theorem pk_four {x : List UInt8} (h : pk x = 4) : x = [33] ∨ x = [88] ∨ x = [70] ∨ x = [71] := by
  unfold pk at h
  repeat' split at h
  all_goals (first | omega | assumption)
theorem fkids_two {x : Fo} (h : KdF x) : x.kids.length ≤ 2 := by cases x <;> simp [Fo.kids]
theorem kdf_un {op : List UInt8} {a : Fo} {p : Nat} (h : pk op = 4) : KdF (.un op a p) := by
  rcases pk_four h with rfl | rfl | rfl | rfl
  · exact ⟨rfl, by simp [tlF, preF, segF, Fo.op, Fo.kids, sgF, loP, h], by simp only [Fo.op]; omega, by simp [Fo.op]⟩
  · exact ⟨rfl, by simp [tlF, preF, segF, Fo.op, Fo.kids, sgF, loP, h], by simp only [Fo.op]; omega, by simp [Fo.op]⟩
  · exact ⟨rfl, by simp [tlF, preF, segF, Fo.op, Fo.kids, sgF, loP, h], by simp only [Fo.op]; omega, by simp [Fo.op]⟩
  · exact ⟨rfl, by simp [tlF, preF, segF, Fo.op, Fo.kids, sgF, loP, h], by simp only [Fo.op]; omega, by simp [Fo.op]⟩
theorem kdf_bin {op : List UInt8} {a b : Fo} {p : Nat} (h : pk op < 4) : KdF (.bin op a b p) := by
  have n1 : op ≠ [33] := fun e => by rw [e] at h; exact absurd h (by decide)
  have n2 : op ≠ [88] := fun e => by rw [e] at h; exact absurd h (by decide)
  have n3 : op ≠ [70] := fun e => by rw [e] at h; exact absurd h (by decide)
  have n4 : op ≠ [71] := fun e => by rw [e] at h; exact absurd h (by decide)
  have e1 : sgF op = [[], 32 :: op ++ [32]] := by simp [sgF, n1, n2, n3, n4]
  refine ⟨by simp [Fo.op, Fo.kids, e1], ?_, by simp only [Fo.op]; omega, pk_len (by simp only [Fo.op]; omega)⟩
  simp [tlF, preF, segF, Fo.op, Fo.kids, e1]
set_option maxHeartbeats 1000000 in
theorem ftell_leaf (op nm : List UInt8) (p : Nat) (h : OkF (.leaf op nm p)) : TCF (.leaf op nm p) := by
  intro B w v l S c ht hH hl
  have hnm : nm.length ≤ 65536 := by rcases h with h | h; exact h.2; rw [h.2]; simp
  have hr : pk op = 5 := by rcases h with ⟨h, _⟩ | ⟨h | h, _⟩ <;> rw [h] <;> decide
  have hat : atF (.leaf op nm p) = tlF (.leaf op nm p) := rfl
  obtain rfl : c = [strV op, strV nm, .slice none 0 0, .int .i64 (p : Int)] := hH
  have H1 := Lib.hid (prank_any ⟨op.toArray⟩)
  unfold PkP at H1
  have e1 : pk (⟨op.toArray⟩ : ByteArray).data.toList = 5 := hr
  rw [e1] at H1
  have hba : Below w.heap.size w (w.alloc (.cells #[.string ⟨op.toArray⟩, .string ⟨nm.toArray⟩, .slice none 0 0, .int .i64 (p : Int)] 25)) := (Below.refl _ _).alloc (Nat.le_refl _) _
  have H2 := Lib.hid (patomtext_any (x := .leaf op nm p) (S := S) (w.alloc (.cells #[.string ⟨op.toArray⟩, .string ⟨nm.toArray⟩, .slice none 0 0, .int .i64 (p : Int)] 25)) (show FS _ 25 S (.leaf op nm p) [strV op, strV nm, .slice none 0 0, .int .i64 (p : Int)] from rfl) hnm)
  rw [hat] at H2
  have HT := Lib.hid ht
  have HBA := Lib.hid hba
  change Calls Tryz.prog 32 #[v, .agg #[.string ⟨op.toArray⟩, .string ⟨nm.toArray⟩, .slice none 0 0, .int .i64 (p : Int)]] w _
  generalize tlF (.leaf op nm p) = tt at *
  have hl2 : l.length + (⟨tt.toArray⟩ : ByteArray).size ≤ 1000000000 := by show l.length + tt.toArray.size ≤ _; simp; omega
  clear ht hl hba hr e1 hat h hnm
  go_enter Tryz.func32, Tryz.ntmps32
  go_wp2_with fail
  with_reducible refine (H1.out _).mono ?_
  rintro e w' ⟨rfl, rfl⟩
  go_wp2_with fail
  refine (H2.out).mono ?_
  rintro e w1 ⟨rfl, hb1⟩
  have HB1 := Lib.hid (HBA.out.trans (hb1.mono HBA.out.size))
  have HT1 := Lib.hid (HT.out.below HB1.out)
  clear hb1
  go_wp2_with (at_builtin; refine wpList_str _ rfl _ _ rfl rfl HT1.out _ rfl hl2 ?_; intro v' w' h1 h2 h3)
  go_ret
  exact ⟨v', rfl, h1, grow_trans (v1 := v) (grow_below HB1.out _) (Lies.refl _ _) h2, (Lies.refl w v).trans HB1.out.size h3⟩
/-- What the rounds over the kids keep. -/
def TlRelF (B : Nat) (x : Fo) (S : Nat → Prop) (l : List UInt8) (w : World) (v : Value) (gs : Nat) (o nm : ByteArray) (A : Option Addr) (cap : Nat) (p : Int) (t i : Value) (wr : World) : Prop :=
  ∃ k : Nat, i = .int .i64 (k : Int) ∧ k ≤ x.kids.length ∧ Txt B wr t (l ++ preF x.op x.kids k) ∧ w.grownBy wr v.ownBlock ∧ Lies w v t ∧ B4 wr w.heap.size (.string o) (.string nm) (.slice A x.kids.length cap) (.int .i64 p) ∧ wr.heap[gs]? = some (.cells ((sgF x.op).map strV).toArray 9 (0, 0)) ∧ FS wr 25 S x (FV.c ⟨o, nm, A, x.kids.length, cap, p⟩)
set_option maxHeartbeats 4000000 in
set_option maxRecDepth 100000 in
theorem ftell_kids {x : Fo} (hk : KdF x) (ih : ∀ k ∈ x.kids, TCF k) : TCF x := by
  intro B w v l S c ht hH hl
  obtain ⟨A, cap, rfl, hkr0⟩ := hH.view
  clear hkr0
  have hr9 := hk.rank
  have g3 : ((pk x.op : Int) == 5) = false := by rw [beq_eq_false_iff_ne]; omega
  have H1 := Lib.hid (prank_any ⟨x.op.toArray⟩)
  unfold PkP at H1
  have e1 : pk (⟨x.op.toArray⟩ : ByteArray).data.toList = pk x.op := rfl
  rw [e1] at H1
  have hsz : (⟨x.op.toArray⟩ : ByteArray).size ≤ 65536 := by show x.op.toArray.size ≤ _; have := hk.op; simp; omega
  have H2 := Lib.hid (psigns_any ⟨x.op.toArray⟩ hsz)
  have H3 := Lib.hid (ploosest_any ⟨x.op.toArray⟩)
  have hba : Below w.heap.size w (w.alloc (.cells #[.string ⟨x.op.toArray⟩, .string ⟨x.nm.toArray⟩, .slice A x.kids.length cap, .int .i64 (x.pos : Int)] 25)) := (Below.refl _ _).alloc (Nat.le_refl _) _
  have HBA := Lib.hid hba
  have HBX := Lib.hid (bx4 (Bx.new w 25 [.string ⟨x.op.toArray⟩, .string ⟨x.nm.toArray⟩, .slice A x.kids.length cap, .int .i64 (x.pos : Int)]))
  have HT := Lib.hid ht
  have HH := Lib.hid hH
  have HKD := Lib.hid hk
  have HIH := Lib.hid ih
  have HN := Lib.hid (fkids_three x)
  change Calls Tryz.prog 32 #[v, .agg #[.string ⟨x.op.toArray⟩, .string ⟨x.nm.toArray⟩, .slice A x.kids.length cap, .int .i64 (x.pos : Int)]] w _
  rw [hk.all] at hl ⊢
  clear ht hH hba hr9 e1 hk ih hsz
  have e2 : (⟨x.op.toArray⟩ : ByteArray).data.toList = x.op := rfl
  rw [e2] at H2 H3
  clear e2
  generalize (⟨x.op.toArray⟩ : ByteArray) = o at *
  generalize (⟨x.nm.toArray⟩ : ByteArray) = nm at *
  generalize (x.pos : Int) = p at *
  obtain ⟨N, hN⟩ : ∃ N, N = x.kids.length := ⟨_, rfl⟩
  have HNN := Lib.hid hN
  have hN3 : N ≤ 3 := by rw [hN]; exact HN.out
  have hlen : (sgF x.op).length = N := by rw [hN]; exact HKD.out.len
  have HLEN := Lib.hid hlen
  rw [← hN] at hl HBX HBA HH ⊢
  clear hN hlen
  go_enter Tryz.func32, Tryz.ntmps32
  go_wp2_with fail
  with_reducible refine (H1.out _).mono ?_
  rintro e w' ⟨rfl, rfl⟩
  go_wp2_with fail
  refine (H2.out _).mono ?_
  rintro e w1 ⟨gs, rfl, hgs, hgh, hb1⟩
  have HB1 := Lib.hid (HBA.out.trans (hb1.mono HBA.out.size))
  have HBX1 := Lib.hid (HBX.out.below hb1)
  have HGS := Lib.hid hgh
  rw [HLEN.out]
  clear hgs hgh hb1
  have HT1 := Lib.hid (HT.out.below HB1.out)
  have HH1 := Lib.hid (HH.out.below HB1.out)
  go_wp2
  go_loopw [0, 19] (fun t i wr => TlRelF B x S l w v gs o nm A cap p t i wr) (fun _ i _ => N - (intOf i).toNat)
  case atStart => exact ⟨0, rfl, Nat.zero_le _, by rw [preF, List.append_nil]; exact HT1.out, grow_below HB1.out _, Lies.refl _ _, by rw [← HNN.out]; exact HBX1.out, HGS.out, by rw [← HNN.out]; exact HH1.out⟩
  case round =>
    obtain ⟨k, rfl, hkn, ht, hg, hli, hbx, hsg, hh⟩ := hrel
    rw [← HNN.out] at hkn hbx hh
    by_cases hlt : k < N
    · have c4 : decide ((k : Int) < (N : Int)) = true := by simp; omega
      have c5 : decide (k < N) = true := by simpa using hlt
      have cs := sign_cell hsg (by rw [HLEN.out]; exact hlt)
      have kk : k < x.kids.length := by rw [← HNN.out]; exact hlt
      have hseg : segF x.op x.kids k = (sgF x.op).getD k [] ++ parX (decide (pk x.kids[k].op < loP (pk x.op) k)) (tlF x.kids[k]) := by
        unfold segF; rw [List.getElem?_eq_getElem kk]
      have hpl : (preF x.op x.kids (k + 1)).length ≤ (preF x.op x.kids N).length := preF_le _ _ (by omega)
      have hln : l.length + (preF x.op x.kids k).length + ((sgF x.op).getD k []).length + (parX (decide (pk x.kids[k].op < loP (pk x.op) k)) (tlF x.kids[k])).length ≤ 1000000 := by
        rw [preF, List.length_append, hseg, List.length_append] at hpl
        omega
      obtain ⟨sgk, hsgk⟩ : ∃ s, s = (sgF x.op).getD k [] := ⟨_, rfl⟩
      rw [← hsgk] at cs hln hseg
      have HSEG := Lib.hid hseg
      have hl1 : (l ++ preF x.op x.kids k).length + (⟨sgk.toArray⟩ : ByteArray).size ≤ 1000000000 := by
        show _ + sgk.toArray.size ≤ _
        simp; omega
      obtain ⟨b0, b1, b2, b3⟩ := hbx.c4
      have hbl := hbx.lt
      have HT2 := Lib.hid ht
      have HG2 := Lib.hid hg
      have HL2 := Lib.hid hli
      have HBX2 := Lib.hid hbx
      have HSG2 := Lib.hid hsg
      have HH2 := Lib.hid hh
      have HLN := Lib.hid hln
      have HK2 := Lib.hid (HIH.out _ (List.getElem_mem kk))
      clear ht hg hli hbx hsg hh hln hseg hsgk hpl
      clear b0 b1 b2 b3
      go_wp2_with (at_builtin; refine wpList_str _ rfl _ _ rfl rfl HT2.out _ rfl hl1 ?_; intro v3 w3 h1 h2 h3; obtain ⟨b0, b1, b2, b3⟩ := (FBx.text HBX2.out HT2.out h2).c4; have hbl3 := (FBx.text HBX2.out HT2.out h2).lt)
      obtain ⟨g, ⟨o', nm', P', l', cp', p'⟩, rfl, hg', hH', a0, a1, a2, a3⟩ := (HH2.out.text HT2.out h2).kr.1 k kk
      have HT3 := Lib.hid h1
      have HG3 := Lib.hid (grow_trans HG2.out HL2.out h2)
      have HL3 := Lib.hid (HL2.out.trans HG2.out.size h3)
      have HBX3 := Lib.hid (FBx.text HBX2.out HT2.out h2)
      have HSG3 := Lib.hid (HT2.out.keep h2 HSG2.out (by decide))
      have HH3 := Lib.hid (HH2.out.text HT2.out h2)
      have HKH3 := Lib.hid hH'
      have hk2 : k ≤ 1 := by have := fkids_two HKD.out; rw [← HNN.out] at this; omega
      clear h1 h2 h3 hH'
      go_region_law (first
        | (go_simp
           go_at_call 59
           refine (H3.out k hk2 _).mono ?_
           rintro e w' ⟨rfl, rfl⟩)
        | (go_simp
           go_at_call 58
           refine (fkid_any HK2.out HT3.out.drew HKH3.out.drew (loP (pk x.op) k) (by have := HLN.out; simp at this ⊢; omega)).mono ?_
           rintro e w4 ⟨v4, rfl, h4, h5, h6⟩
           have HT4 := Lib.hid h4
           have HG4 := Lib.hid h5
           have HL4 := Lib.hid h6
           clear h4 h5 h6))
      all_goals
        have hpre : l ++ preF x.op x.kids (k + 1) = l ++ preF x.op x.kids k ++ (⟨sgk.toArray⟩ : ByteArray).data.toList ++ parX (decide (pk x.kids[k].op < loP (pk x.op) k)) (tlF x.kids[k]) := by
          rw [preF, HSEG.out]; simp
        have HRL : Hid (TlRelF B x S l w v gs o nm (some ⟨g, 0, none⟩) cap p v4 (.int .i64 ((k : Int) + 1)) w4) :=
          Lib.hid ⟨k + 1, by go_num, by rw [← HNN.out]; omega, by rw [hpre]; exact HT4.out, grow_trans (grow_drew HG3.out) HL3.out HG4.out, HL3.out.trans (grow_drew HG3.out).size HL4.out, by rw [← HNN.out]; exact FBx.text HBX3.out.drew HT3.out.drew HG4.out, HT3.out.drew.keep HG4.out HSG3.out (by decide), by rw [← HNN.out]; exact HH3.out.drew.text HT3.out.drew HG4.out⟩
        clear hpre
        go_wp2
        go_roundw
        case rel => exact HRL.out
        case measure => simp [intOf]; omega
    · have c4 : decide ((k : Int) < (N : Int)) = false := by simp; omega
      have c5 : decide (k < N) = false := by simpa using hlt
      have hkN : k = N := by omega
      subst hkN
      have HT2 := Lib.hid ht
      have HG2 := Lib.hid hg
      have HL2 := Lib.hid hli
      clear ht hg hli hbx hsg hh
      go_wp2
      go_ret
      exact ⟨_, rfl, HT2.out, HG2.out, HL2.out⟩
theorem ftell_any : ∀ x : Fo, OkF x → TCF x
  | .leaf op nm p, h => ftell_leaf op nm p h
  | .un op a p, h => ftell_kids (kdf_un h.1) (by simp only [Fo.kids, List.mem_singleton]; rintro x rfl; exact ftell_any x h.2)
  | .bin op a b p, h => ftell_kids (kdf_bin h.1) (by
      have h1 := ftell_any a h.2.1
      have h2 := ftell_any b h.2.2
      simp only [Fo.kids, List.mem_cons, List.not_mem_nil, or_false]
      rintro x (rfl | rfl) <;> assumption)
theorem tlF_pos : ∀ x : Fo, OkF x → 0 < (tlF x).length
  | .leaf op nm p, h => by
    rcases h with ⟨rfl, _⟩ | ⟨rfl | rfl, _⟩ <;> simp [tlF, opLab, opTrue, opFalse]
  | .un op a p, h => by rcases pk_four h.1 with rfl | rfl | rfl | rfl <;> simp [tlF]
  | .bin op a b p, _ => by simp [tlF]; omega
theorem fprint_any {x : Fo} (hx : OkF x) {S : Nat → Prop} {o nm : ByteArray} {p : Int} {A : Option Addr} {ll cap : Nat} (w : World) (hH : FS w 25 S x (FV.c ⟨o, nm, A, ll, cap, p⟩)) (hl : (tlF x).length ≤ 1000000) :
    Calls Tryz.prog 13 #[.agg #[.string o, .string nm, .slice A ll cap, .int .i64 p]] w fun e w' => e = .returned (.string ⟨(tlF x).toArray⟩) ∧ Below w.heap.size w w' := by
  have hba : Below w.heap.size w (w.alloc (.cells #[.string o, .string nm, .slice A ll cap, .int .i64 p] 25)) := (Below.refl _ _).alloc (Nat.le_refl _) _
  have H := Lib.hid (ftell_any x hx w.heap.size _ (.slice none 0 0) [] S _ ⟨World.ownsRow_nil _ _ _ _, hba.size⟩ (hH.below hba) (by simpa using hl))
  have HBA := Lib.hid hba
  have HP := Lib.hid (tlF_pos x hx)
  clear hH hba hx
  go_enter Tryz.func13, Tryz.ntmps13
  go_wp2_with fail
  refine (H.out).mono ?_
  rintro e w1 ⟨v', rfl, h1, h2, h3⟩
  rw [List.nil_append] at h1
  obtain ⟨g, cap', rfl, _⟩ := h1.own.form HP.out
  have HS1 := Lib.hid (txt_string h1 rfl)
  have HB1 := Lib.hid (HBA.out.trans ((show Below w.heap.size _ _ from (Below.refl _ _).grown h2 HBA.out.size (fun k hk => by cases hk))))
  clear h1 h2 h3
  generalize (tlF x).length = N at *
  have hcv := HS1.out
  go_wp2
  go_ret
  exact ⟨rfl, HB1.out⟩
end Go.Proofs.YtjhicgllofjpoaaGreatDoor
