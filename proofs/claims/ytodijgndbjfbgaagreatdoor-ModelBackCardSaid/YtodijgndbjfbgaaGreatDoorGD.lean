/-
  The branches of a command, walked. A command, walked.
-/
import Derived.Test.YtodijgndbjfbgaaGreatDoorGC
import Derived.Deep.AppendLies
namespace Go.Proofs.YtodijgndbjfbgaaGreatDoor
section
open Go.RowKit

section
variable {xb rb b D : Nat} {st : St}
theorem info_lbr : (Tryz.prog.info? 54).map (fun i => (i.zero, i.size, i.bytes)) = some (some (.agg #[.int .i64 0, .slice none 0 0, .int .i64 0]), 3, 40) := by kernel_rfl
set_option maxHeartbeats 4000000 in
set_option maxRecDepth 100000 in
theorem lbr_any {b1 : Nat} {row0 : Option Nat} {A0 : Option Addr} {n0 cap0 : Nat} {l0 : List BrO} (w : World) (h : MRd w xb rb b D st) {p q : Nat} (x : ByteArray) (hc : CapS w xb rb p q x) (hcr : row0 ≠ some p ∧ row0 ≠ some q) (hb1 : b ≤ b1) (hbw : b1 ≤ w.heap.size) (hxr : xb < b1 ∧ rb < b1) (hrow : Row w b1 54 3 (BH w b1) l0 (.slice A0 n0 cap0)) (hr0 : (Value.slice A0 n0 cap0).ownBlock = row0) (hlen : l0.length + st.len ≤ 200000) :
    Calls Tryz.prog 127 #[.slice A0 n0 cap0, .func (.func 103) #[] #[.pointer (some ⟨p, 0, none⟩), .pointer (some ⟨q, 0, none⟩)], .func (.func 128) #[.pointer (some ⟨xb, 0, none⟩)] #[]] w (LsP 54 3 BH xb rb b D b1 row0 l0 (st.list (fun t => isT t x.data.toList) (fun s : St => s.tl.brch D)) w) := by
  obtain ⟨i0, hi0, hz⟩ := Option.map_eq_some_iff.1 info_lbr
  simp only [Prod.mk.injEq] at hz
  obtain ⟨hz0, hz1, hz2⟩ := hz
  have HZ0 := Lib.hid hz0
  have HZ1 := Lib.hid hz1
  have HZ2 := Lib.hid hz2
  have HI := Lib.hid hi0
  have hd : Dec (fun t => isT t x.data.toList) (fun s : St => s.tl.brch D) := dec_tl (brch_le D)
  have HD := Lib.hid hd
  obtain ⟨tot, htot⟩ : ∃ tot, tot = st.list (fun t => isT t x.data.toList) (fun s : St => s.tl.brch D) := ⟨_, rfl⟩
  rw [← htot]
  have HR0 := Lib.hid (show LsRel 54 3 BH (fun t => isT t x.data.toList) (fun s : St => s.tl.brch D) xb rb b D b1 row0 l0 tot w st.len (.slice A0 n0 cap0) w from ⟨[], st, rfl, by simpa using hrow, h, by rw [htot]; simp, Fx.refl _ _, .inl hr0, by simpa using hlen⟩)
  have HC := Lib.hid (fun (wr : World) (hf : Fx (X3 xb rb row0) w wr) => hc.fx3 hf hcr)
  clear hc hcr
  clear hz0 hz1 hz2 hi0 hd h hrow hr0 hlen htot
  go_enter Tryz.func127, Tryz.ntmps127
  go_wp2
  go_loopg [0] st.len (fun gk v wr => LsRel 54 3 BH (fun t => isT t x.data.toList) (fun s : St => s.tl.brch D) xb rb b D b1 row0 l0 tot w gk v wr)
  case atStart => exact HR0.out
  case round =>
    clear HR0
    obtain ⟨acc, st1, rfl, hL⟩ := hrel
    obtain ⟨A1, cap1, hv1⟩ := hL.row.form
    subst hv1
    have HL := Lib.hid hL
    clear hL
    obtain ⟨N, hN⟩ : ∃ N, N = (l0 ++ acc).length := ⟨_, rfl⟩
    have HNN := Lib.hid hN
    rw [← hN]
    clear hN
    cases hp : isT st1.hd x.data.toList with
    | false =>
      have HAN := Lib.hid (mskipc_no wr HL.out.mr x (HC.out wr HL.out.fx) hp)
      have HT := Lib.hid (show acc = tot.1 ∧ st1 = tot.2 by
        have := HL.out.tot
        rw [list_end (p := (fun t => isT t x.data.toList)) (rd := (fun s : St => s.tl.brch D)) hp] at this
        rw [← this]; simp)
      skip
      clear hp
      go_wp2_with fail
      refine (HAN.out).mono ?_
      rintro e w1 ⟨rfl, hb1'⟩
      have HB1 := Lib.hid hb1'
      clear hb1'
      go_wp2
      go_ret
      obtain ⟨e1, e2⟩ := HT.out
      have hN := HNN.out
      subst e1 e2
      exact ⟨A1, cap1, ret_slice hN, HL.out.row.keep (E := E0) (Kt.below HB1.out) id (fun _ _ h => h.keep (Kt.below (E := E0) HB1.out) id id), HL.out.mr.below HB1.out, HL.out.fx.on HB1.out, HL.out.at_⟩
    | true =>
      have HAN := Lib.hid (mskipc_yes wr HL.out.mr x (HC.out wr HL.out.fx) hp)
      have HP := Lib.hid (show (fun t => isT t x.data.toList) st1.hd = true from hp)
      have HLT := Lib.hid ((HD.out st1 hp).1)
      skip
      clear hp
      go_wp2_with fail
      refine (HAN.out).mono ?_
      rintro e w1 ⟨rfl, hM1, hF1⟩
      have HM1 := Lib.hid hM1
      have HK1 := Lib.hid hF1
      have HF1 := Lib.hid (show Fx (X3 xb rb row0) w w1 from HL.out.fx.trans hF1.three)
      have hs1 := HF1.out.size
      clear hM1 hF1
      go_wp2_with fail
      refine (mbranch_any w1 HM1.out).mono ?_
      rintro e wA ⟨A, cap, rfl, hR, hMA, hFA⟩
      have hFA' : Fx (X3 xb rb row0) w wA := HF1.out.trans hFA.three
      have hkt : Kt b1 E0 wr wA := Kt.fx (HK1.out.trans hFA) (fun k hk => x2_lt hk hxr.1 hxr.2)
      obtain ⟨cs, hO, hLH⟩ := HL.out.row
      have HO := Lib.hid (own_kt hO hkt id)
      have HLH := Lib.hid (hLH.imp (Q := BH wA b1) (fun _ _ h => h.keep hkt id id))
      have HE := Lib.hid (show BH wA b1 ((fun s : St => s.tl.brch D) st1).1 [.int .i64 (((st1.tl.brch D).1.wt : Nat) : Int), .slice A (st1.tl.brch D).1.sets.length cap, .int .i64 (((st1.tl.brch D).1.pos : Nat) : Int)] from ⟨A, cap, rfl, hR.mono (by omega) (fun _ _ h => h.mono (by omega))⟩)
      have HMA := Lib.hid (show MRd wA xb rb b D ((fun s : St => s.tl.brch D) st1).2 from hMA)
      have HFA := Lib.hid hFA'
      have hbA : b1 ≤ wA.heap.size := by have := hFA'.size; omega
      have hNl : N ≤ 200000 := by rw [HNN.out, List.length_append]; have := HL.out.len; omega
      rw [← HNN.out] at HO
      have HOA := Lib.hid (own_kt HO.out (Kt.below (E := E0) ((Below.refl wA.heap.size wA).alloc (Nat.le_refl _) (.cells #[.int .i64 (((st1.tl.brch D).1.wt : Nat) : Int), .slice A (st1.tl.brch D).1.sets.length cap, .int .i64 (((st1.tl.brch D).1.pos : Nat) : Int)] 54))) id)
      clear hO hLH hFA hMA hFA' hkt hR
      go_wp2_with (at_builtin; refine wpList_append_lies _ rfl _ _ 58 rfl b1 54 i0 (.agg #[.int .i64 0, .slice none 0 0, .int .i64 0]) 3 40 Tryz.underlying58 HI.out HZ0.out HZ1.out HZ2.out rfl (by decide) _ _ _ rfl HOA.out ⟨wA.heap.size, 0, none⟩ 1 1 [.int .i64 (((st1.tl.brch D).1.wt : Nat) : Int), .slice A (st1.tl.brch D).1.sets.length cap, .int .i64 (((st1.tl.brch D).1.pos : Nat) : Int)] rfl rfl ?c1 ?c2 (by omega) ?c3 ?c4 ?c5 (wA.heap.size + 1) (by simp) ?_)
      case c1 => intro j u hj; exact (Bx.new wA 54 [.int .i64 (((st1.tl.brch D).1.wt : Nat) : Int), .slice A (st1.tl.brch D).1.sets.length cap, .int .i64 (((st1.tl.brch D).1.pos : Nat) : Int)]).cell_add hj
      case c2 => intro u hu; simp only [List.mem_cons, List.not_mem_nil, or_false] at hu; rcases hu with rfl | rfl | rfl <;> rfl
      case c3 => unfold maxLen; omega
      case c4 => omega
      case c5 => simp; omega
      intro g2 cap2 w3 hown3 hgrow3 hat3 hlt3
      have HR3 := Lib.hid (HL.out.step HD.out HP.out (by unfold RdT; decide) (fun _ _ _ _ _ hk h => h.keep hk (show ¬ (57 = 54) by decide) (show ¬ (115 = 54) by decide)) hb1 (c := [.int .i64 (((st1.tl.brch D).1.wt : Nat) : Int), .slice A (st1.tl.brch D).1.sets.length cap, .int .i64 (((st1.tl.brch D).1.pos : Nat) : Int)]) (by rw [← HNN.out]; exact HO.out) HLH.out HE.out HMA.out HFA.out (by rw [← HNN.out]; exact hown3) (by rw [← HNN.out]; exact hgrow3) (by
        rcases hat3 with e | e
        · left; rw [← HNN.out]; exact e.symm
        · right; rw [e]; rfl))
      clear hown3 hgrow3 hat3
      go_wp2
      go_roundg ((fun s : St => s.tl.brch D) st1).2.len
      case measure => exact HLT.out
      case rel => exact ⟨_, _, rfl, HR3.out⟩
end
end
section
open Go.RowKit

section
variable {xb rb b D : Nat} {st : St}
/-- What a command's reader tells. -/
def CmP (xb rb b D : Nat) (r : CmdO × St) (w : World) (e : Ending) (w' : World) : Prop :=
  ∃ (v : XV) (A : Option Addr) (cap : Nat), e = .returned (.agg #[.string ⟨r.1.act.toArray⟩, .string v.o, .string v.nm, .int .i64 v.n, .slice v.A v.ll v.cap, .int .i64 v.p, .slice A r.1.brs.length cap, .int .i64 ((r.1.pos : Nat) : Int)]) ∧ XO w' (w.heap.size + 1) r.1.guard v.c ∧ Row w' (w.heap.size + 1) 54 3 (BH w' (w.heap.size + 1)) r.1.brs (.slice A r.1.brs.length cap) ∧ MRd w' xb rb b D r.2 ∧ Fx (X2 xb rb) w w'
/-- A command's box is written: what else there is stays. -/
theorem Kt.com {w : World} {c q : Nat} {cs : List Value} {i : Nat} {us : List Value} (h : Bx w q 60 cs) : Kt c (fun e => e = 60) w (Go.Proofs.YtodijgndbjfbgaaGreatDoor.setL w q i us) := fun k _ _ _ h1 h2 => setL_heap (show k ≠ q from fun hkq => h2 (blk_typ (hkq ▸ h1) h)) us w i
set_option maxHeartbeats 8000000 in
theorem mcom_any (w : World) (h : MRd w xb rb b D st) : Calls Tryz.prog 112 #[.pointer (some ⟨xb, 0, none⟩)] w (CmP xb rb b D (st.cmnd D) w) := by
  have hx := h.ltx
  have hrb := h.hr
  have HN := Lib.hid h.nx
  have hbl := h.ble
  have H := Lib.hid h
  clear h
  have hf0 := field0
  have hf1 := field1
  have hf2 := field2
  have c0 := H.out.c0
  go_enter Tryz.func112, Tryz.ntmps112
  go_wp2_with fail
  refine calls_gen (P := fun W => MRd W xb rb b D st ∧ Bx W w.heap.size 60 [.string ⟨#[]⟩, .string ⟨#[]⟩, .string ⟨#[]⟩, .int .i64 0, .slice none 0 0, .int .i64 0, .slice none 0 0, .int .i64 0] ∧ Fx (X2 xb rb) w W) ⟨H.out.alloc _, Bx.new _ _ _, (Fx.refl _ _).alloc _⟩ ?_
  rintro W ⟨hM, hB, hF⟩
  refine (hM.peek).mono ?_
  rintro e w1 ⟨rfl, hb1⟩
  have HM1 := Lib.hid (hM.below hb1)
  have HB1 := Lib.hid (hB.below hb1)
  have HF1 := Lib.hid (hF.on hb1)
  have hs1 := HB1.out.lt
  clear hM hB hF hb1 H c0
  go_wp2_with fail
  refine calls_gen (P := fun W => MRd W xb rb b D st ∧ Bx W w.heap.size 60 [.string ⟨#[]⟩, .string ⟨#[]⟩, .string ⟨#[]⟩, .int .i64 0, .slice none 0 0, .int .i64 0, .slice none 0 0, .int .i64 0] ∧ Bx W w1.heap.size 60 [.string ⟨#[]⟩, .string ⟨#[]⟩, .string ⟨#[]⟩, .int .i64 0, .slice none 0 0, .int .i64 0, .slice none 0 0, .int .i64 ((st.hd.pos : Nat) : Int)] ∧ Fx (X2 xb rb) w W) ⟨HM1.out.alloc _, HB1.out.alloc _, Bx.new _ _ _, HF1.out.alloc _⟩ ?_
  rintro W ⟨hM, hB, hC, hF⟩
  refine (mwant_any W hM _).mono ?_
  rintro e w2 ⟨rfl, hM2, hF2⟩
  have HM2 := Lib.hid (show MRd w2 xb rb b D (st.want [91]) from hM2)
  have HC2 := Lib.hid (hC.fx hF2 (HN.out _ (by omega)))
  have HB2 := Lib.hid (hB.fx hF2 (HN.out _ (Nat.le_refl _)))
  have HF2 := Lib.hid (hF.trans hF2)
  have c0 := HM2.out.c0
  have hx2 := HM2.out.ltx
  have hl2 := HC2.out.lt
  clear hM hB hC hF hM2 hF2 HM1 HB1 HF1
  go_wp2_with fail
  refine (HM2.out.is_ _).mono ?_
  rintro e w3 ⟨rfl, hb3⟩
  have HM3 := Lib.hid (HM2.out.below hb3)
  have HC3 := Lib.hid (HC2.out.below hb3)
  have HB3 := Lib.hid (HB2.out.below hb3)
  have HF3 := Lib.hid (HF2.out.on hb3)
  have hl3 := HC3.out.lt
  clear hb3 HM2 HC2 HB2 HF2 c0 hx2
  cases hi : isT (st.want [91]).hd [93] with
  | true =>
    have HA := Lib.hid (show (st.want [91]).actn = ([], st.want [91]) by simp [St.actn, hi])
    clear hi
    go_wp2_with fail
    refine calls_gen (P := fun W => MRd W xb rb b D (st.want [91]).actn.2 ∧ Bx W w.heap.size 60 [.string ⟨#[]⟩, .string ⟨#[]⟩, .string ⟨#[]⟩, .int .i64 0, .slice none 0 0, .int .i64 0, .slice none 0 0, .int .i64 0] ∧ Bx W w1.heap.size 60 [.string ⟨(st.want [91]).actn.1.toArray⟩, .string ⟨#[]⟩, .string ⟨#[]⟩, .int .i64 0, .slice none 0 0, .int .i64 0, .slice none 0 0, .int .i64 ((st.hd.pos : Nat) : Int)] ∧ Fx (X2 xb rb) w W) ⟨by rw [HA.out]; exact HM3.out, HB3.out, by rw [HA.out]; exact HC3.out, HF3.out⟩ ?_
    rintro W ⟨hM, hB, hC, hF⟩
    refine (mwant_any W hM _).mono ?_
    rintro e w4 ⟨rfl, hM4, hF4⟩
    have HM4 := Lib.hid (show MRd w4 xb rb b D ((st.want [91]).actn.2.want [93]) from hM4)
    have HB4 := Lib.hid (hB.fx hF4 (HN.out _ (Nat.le_refl _)))
    have HC4 := Lib.hid (hC.fx hF4 (HN.out _ (by omega)))
    have HF4 := Lib.hid (hF.trans hF4)
    clear hM hB hC hF hM4 hF4
    go_wp2_with fail
    refine (mexpr_any w4 HM4.out).mono ?_
    rintro e w5 ⟨v, rfl, hX, hM5, hF5⟩
    have HM5 := Lib.hid (show MRd w5 xb rb b D (st.guard D).2 from hM5)
    have HX5 := Lib.hid (show XO w5 (w.heap.size + 1) (st.guard D).1 v.c from hX.mono (by have := HF4.out.size; omega))
    have HB5 := Lib.hid (HB4.out.fx hF5 (HN.out _ (Nat.le_refl _)))
    have hC5 := HC4.out.fx hF5 (HN.out _ (by omega))
    have HF5 := Lib.hid (HF4.out.trans hF5)
    have a0 := hC5.cell 0
    have a1 := hC5.cell 1
    have a2 := hC5.cell 2
    have a3 := hC5.cell 3
    have a4 := hC5.cell 4
    have a5 := hC5.cell 5
    have a6 := hC5.cell 6
    have a7 := hC5.cell 7
    simp only [List.getElem?_cons_zero, List.getElem?_cons_succ] at a0 a1 a2 a3 a4 a5 a6 a7
    have z0 := hC5.frozen 0
    have z1 := hC5.frozen 1
    have z2 := hC5.frozen 2
    have z3 := hC5.frozen 3
    have z4 := hC5.frozen 4
    have z5 := hC5.frozen 5
    have z6 := hC5.frozen 6
    have z7 := hC5.frozen 7
    have hl5 := hC5.lt
    have HC5 := Lib.hid hC5
    clear hX hM5 hF5 hC5 HM4 HB4 HC4 HF4
    go_wp2_with fail
    have hC5s := HC5.out.setL (i := 1) (us := [.string v.o, .string v.nm, .int .i64 v.n, .slice v.A v.ll v.cap, .int .i64 v.p])
    simp only [setL, setLs, List.set_cons_zero, List.set_cons_succ] at hC5s
    refine calls_gen (P := fun W => MRd W xb rb b D (st.guard D).2 ∧ Bx W w.heap.size 60 [.string ⟨#[]⟩, .string ⟨#[]⟩, .string ⟨#[]⟩, .int .i64 0, .slice none 0 0, .int .i64 0, .slice none 0 0, .int .i64 0] ∧ Bx W w1.heap.size 60 [.string ⟨(st.want [91]).actn.1.toArray⟩, .string v.o, .string v.nm, .int .i64 v.n, .slice v.A v.ll v.cap, .int .i64 v.p, .slice none 0 0, .int .i64 ((st.hd.pos : Nat) : Int)] ∧ XO W (w.heap.size + 1) (st.guard D).1 v.c ∧ Fx (X2 xb rb) w W) ⟨MRd.setL (i := 1) (us := [.string v.o, .string v.nm, .int .i64 v.n, .slice v.A v.ll v.cap, .int .i64 v.p]) (by unfold RdT; decide) (by omega) HM5.out HC5.out, Bx.farL (i := 1) (us := [.string v.o, .string v.nm, .int .i64 v.n, .slice v.A v.ll v.cap, .int .i64 v.p]) (by omega) HB5.out, hC5s, HX5.out.keep (Kt.com (i := 1) (us := [.string v.o, .string v.nm, .int .i64 v.n, .slice v.A v.ll v.cap, .int .i64 v.p]) HC5.out) (show ¬ (57 = 60) by decide), Fx.setL (i := 1) (us := [.string v.o, .string v.nm, .int .i64 v.n, .slice v.A v.ll v.cap, .int .i64 v.p]) (.inl (by omega)) HF5.out⟩ ?_
    rintro W2 ⟨hM, hB, hC, hX, hF⟩
    refine (mwant_any W2 hM _).mono ?_
    rintro e w6 ⟨rfl, hM6, hF6⟩
    have HM6 := Lib.hid (show MRd w6 xb rb b D ((st.guard D).2.want [45, 62]) from hM6)
    have HB6 := Lib.hid (hB.fx hF6 (HN.out _ (Nat.le_refl _)))
    have HC6 := Lib.hid (hC.fx hF6 (HN.out _ (by omega)))
    have HX6 := Lib.hid (hX.fx hF6 (fun k hk => by have := x2_lt hk hx hrb; omega))
    have HF6 := Lib.hid (hF.trans hF6)
    clear hM hB hC hX hF hM6 hF6 hC5s HM5 HB5 HC5 HX5 HF5 a0 a1 a2 a3 a4 a5 a6 a7 z0 z1 z2 z3 z4 z5 z6 z7
    go_wp2_with fail
    refine (mbranch_any w6 HM6.out).mono ?_
    rintro e w7 ⟨A0, cap0, rfl, hR, hM7, hF7⟩
    have HM7 := Lib.hid hM7
    have HR7 := Lib.hid (show Row w7 (w.heap.size + 1) 115 7 (DH w7 (w.heap.size + 1)) (((st.guard D).2.want [45, 62]).brch D).1.sets (.slice A0 (((st.guard D).2.want [45, 62]).brch D).1.sets.length cap0) from hR.mono (by have := HF6.out.size; omega) (fun _ _ h => h.mono (by have := HF6.out.size; omega)))
    have HB7 := Lib.hid (HB6.out.fx hF7 (HN.out _ (Nat.le_refl _)))
    have HC7 := Lib.hid (HC6.out.fx hF7 (HN.out _ (by omega)))
    have HX7 := Lib.hid (HX6.out.fx hF7 (fun k hk => by have := x2_lt hk hx hrb; omega))
    have HF7 := Lib.hid (HF6.out.trans hF7)
    have hs7 := HC7.out.lt
    clear hR hM7 hF7 HM6 HB6 HC6 HX6 HF6
    go_wp2_with fail
    refine calls_gen (P := fun W => MRd W xb rb b D (((st.guard D).2.want [45, 62]).brch D).2 ∧ Bx W w.heap.size 60 [.string ⟨#[]⟩, .string ⟨#[]⟩, .string ⟨#[]⟩, .int .i64 0, .slice none 0 0, .int .i64 0, .slice none 0 0, .int .i64 0] ∧ Bx W w1.heap.size 60 [.string ⟨(st.want [91]).actn.1.toArray⟩, .string v.o, .string v.nm, .int .i64 v.n, .slice v.A v.ll v.cap, .int .i64 v.p, .slice none 0 0, .int .i64 ((st.hd.pos : Nat) : Int)] ∧ XO W (w.heap.size + 1) (st.guard D).1 v.c ∧ Row W (w.heap.size + 1) 54 3 (BH W (w.heap.size + 1)) [(((st.guard D).2.want [45, 62]).brch D).1] (.slice (some ⟨w7.heap.size, 0, none⟩) 1 1) ∧ w7.heap.size < W.heap.size ∧ Fx (X2 xb rb) w W) ⟨HM7.out.alloc _, HB7.out.alloc _, HC7.out.alloc _, HX7.out.alloc _, ?_, by simp, HF7.out.alloc _⟩ ?_
    · exact Row.one (P := BH (w7.alloc _) (w.heap.size + 1)) (a := (((st.guard D).2.want [45, 62]).brch D).1) (c := [.int .i64 (((((st.guard D).2.want [45, 62]).brch D).1.wt : Nat) : Int), .slice A0 (((st.guard D).2.want [45, 62]).brch D).1.sets.length cap0, .int .i64 (((((st.guard D).2.want [45, 62]).brch D).1.pos : Nat) : Int)]) ⟨A0, cap0, rfl, HR7.out.keep (E := E0) (Kt.below ((Below.refl _ _).alloc (Nat.le_refl _) _)) id (fun _ _ h => h.keep (Kt.below (E := E0) ((Below.refl _ _).alloc (Nat.le_refl _) _)) id)⟩ rfl (by omega)
    rintro W3 ⟨hM, hB, hC, hX, hR, hwl, hF⟩
    refine (mskips_any W3 hM _).mono ?_
    rintro e w8 ⟨p, q, rfl, hcap, hp1, hq1, hp2, hq2, hb8⟩
    have HM8 := Lib.hid (hM.below hb8)
    have HB8 := Lib.hid (hB.below hb8)
    have HC8 := Lib.hid (hC.below hb8)
    have HX8 := Lib.hid (hX.below hb8)
    have HR8 := Lib.hid (hR.keep (E := E0) (Kt.below hb8) id (fun _ _ h => h.keep (Kt.below (E := E0) hb8) id id))
    have HF8 := Lib.hid (hF.on hb8)
    have HCA := Lib.hid hcap
    have HLn := Lib.hid (hM.below hb8).len
    have hs8 : w7.heap.size < w8.heap.size := by have := hb8.size; omega
    clear hM hB hC hX hR hF hb8 hcap HM7 HB7 HC7 HX7 HR7 HF7
    go_wp2_with fail
    refine (lbr_any (b1 := w.heap.size + 1) (row0 := some w7.heap.size) w8 HM8.out _ HCA.out ⟨by intro h; injection h; omega, by intro h; injection h; omega⟩ (by omega) (by omega) ⟨by omega, by omega⟩ HR8.out rfl (by have := HLn.out; simp; omega)).mono ?_
    rintro e w9 ⟨A, cap, rfl, hR9, hM9, hF9, _⟩
    have hF9' : Fx (X3 xb rb (some w7.heap.size)) w8 w9 := hF9
    have HB9 := Lib.hid (HB8.out.fx hF9' (nx3 (HN.out _ (Nat.le_refl _)) (by intro h; injection h; omega)))
    have hC9 := HC8.out.fx hF9' (nx3 (HN.out _ (by omega)) (by intro h; injection h; omega))
    have HX9 := Lib.hid (HX8.out.keep (E := fun e => e = 54) (fun k cs e hk h1 h2 => hF9'.block k (blk_lt h1) (fun hx3 => by
      rcases hx3 with rfl | rfl | hx3
      · omega
      · omega
      · injection hx3 with hx3
        subst hx3
        obtain ⟨_, ⟨cs9, h9, _⟩⟩ : True ∧ ∃ cs9, w8.ownsRow (w.heap.size + 1) 54 3 (.slice (some ⟨w7.heap.size, 0, none⟩) 1 1) 1 cs9 ∧ True := ⟨trivial, HR8.out.imp fun _ h => ⟨h.1, trivial⟩⟩
        obtain ⟨cur, hcur⟩ := (own_typ h9 w7.heap.size rfl).2
        exact h2 (blk_typ h1 hcur))) (show ¬ (57 = 54) by decide))
    have HR9 := Lib.hid hR9
    have HM9 := Lib.hid (show MRd w9 xb rb b D (((st.guard D).2.want [45, 62]).brchs D).2 from hM9)
    have HF9 := Lib.hid (HF8.out.row hF9' (fun g hg => by injection hg; omega))
    have a0 := hC9.cell 0
    have a1 := hC9.cell 1
    have a2 := hC9.cell 2
    have a3 := hC9.cell 3
    have a4 := hC9.cell 4
    have a5 := hC9.cell 5
    have a6 := hC9.cell 6
    have a7 := hC9.cell 7
    simp only [List.getElem?_cons_zero, List.getElem?_cons_succ] at a0 a1 a2 a3 a4 a5 a6 a7
    have z0 := hC9.frozen 0
    have z1 := hC9.frozen 1
    have z2 := hC9.frozen 2
    have z3 := hC9.frozen 3
    have z4 := hC9.frozen 4
    have z5 := hC9.frozen 5
    have z6 := hC9.frozen 6
    have z7 := hC9.frozen 7
    have hl9 := hC9.lt
    have HC9 := Lib.hid hC9
    obtain ⟨N, hN⟩ : ∃ N, N = (((st.guard D).2.want [45, 62]).brchs D).1.length := ⟨_, rfl⟩
    have HNN := Lib.hid hN
    rw [show ([(((st.guard D).2.want [45, 62]).brch D).1] ++ ((((st.guard D).2.want [45, 62]).brch D).2.list (fun t => isT t (⟨#[43]⟩ : ByteArray).data.toList) (fun s => s.tl.brch D)).1).length = N from hN.symm] at HR9 ⊢
    clear hR9 hM9 hF9 hF9' hC9 hN HM8 HB8 HC8 HX8 HR8 HF8
    go_wp2_with fail
    have hk9 : Kt (w.heap.size + 1) (fun e => e = 60) w9 (w9.setCell ⟨w1.heap.size, 6, none⟩ (.slice A N cap)) := Kt.com (i := 6) (us := [.slice A N cap]) HC9.out
    refine calls_gen (P := fun W => MRd W xb rb b D (((st.guard D).2.want [45, 62]).brchs D).2 ∧ Bx W w.heap.size 60 [.string ⟨#[]⟩, .string ⟨#[]⟩, .string ⟨#[]⟩, .int .i64 0, .slice none 0 0, .int .i64 0, .slice none 0 0, .int .i64 0] ∧ Bx W w1.heap.size 60 [.string ⟨(st.want [91]).actn.1.toArray⟩, .string v.o, .string v.nm, .int .i64 v.n, .slice v.A v.ll v.cap, .int .i64 v.p, .slice A N cap, .int .i64 ((st.hd.pos : Nat) : Int)] ∧ XO W (w.heap.size + 1) (st.guard D).1 v.c ∧ Row W (w.heap.size + 1) 54 3 (BH W (w.heap.size + 1)) (((st.guard D).2.want [45, 62]).brchs D).1 (.slice A N cap) ∧ Fx (X2 xb rb) w W) ⟨HM9.out.set HC9.out (by unfold RdT; decide) (by omega) _, HB9.out.far (p := ⟨w1.heap.size, 6, none⟩) (by show w.heap.size ≠ w1.heap.size; omega) _, HC9.out.set 6 _, HX9.out.keep hk9 (show ¬ (57 = 60) by decide), HR9.out.keep hk9 (show ¬ (54 = 60) by decide) (fun _ _ h => h.keep hk9 (show ¬ (57 = 60) by decide) (show ¬ (115 = 60) by decide)), HF9.out.setCell (p := ⟨w1.heap.size, 6, none⟩) (.inl (by show _ ≤ w1.heap.size; omega)) _⟩ ?_
    rintro W4 ⟨hM, hB, hC, hX, hR, hF⟩
    refine (mwant_any W4 hM _).mono ?_
    rintro e wZ ⟨rfl, hMZ, hFZ⟩
    have HMZ := Lib.hid (show MRd wZ xb rb b D (st.cmnd D).2 from hMZ)
    have hBZ := hB.fx hFZ (HN.out _ (Nat.le_refl _))
    have hCZ := hC.fx hFZ (HN.out _ (by omega))
    have hkZ : Kt (w.heap.size + 1) E0 W4 wZ := Kt.fx hFZ (fun k hk => by have := x2_lt hk hx hrb; omega)
    have HXZ := Lib.hid (hX.keep hkZ id)
    have HRZ := Lib.hid (hR.keep hkZ id (fun _ _ h => h.keep hkZ id id))
    have HFZ := Lib.hid (hF.trans hFZ)
    have a0 := hCZ.cell 0
    have a1 := hCZ.cell 1
    have a2 := hCZ.cell 2
    have a3 := hCZ.cell 3
    have a4 := hCZ.cell 4
    have a5 := hCZ.cell 5
    have a6 := hCZ.cell 6
    have a7 := hCZ.cell 7
    simp only [List.getElem?_cons_zero, List.getElem?_cons_succ] at a0 a1 a2 a3 a4 a5 a6 a7
    have d0 := hBZ.cell 0
    have d1 := hBZ.cell 1
    have d2 := hBZ.cell 2
    have d3 := hBZ.cell 3
    have d4 := hBZ.cell 4
    have d5 := hBZ.cell 5
    have d6 := hBZ.cell 6
    have d7 := hBZ.cell 7
    simp only [List.getElem?_cons_zero, List.getElem?_cons_succ] at d0 d1 d2 d3 d4 d5 d6 d7
    have y0 := hBZ.frozen 0
    have y1 := hBZ.frozen 1
    have y2 := hBZ.frozen 2
    have y3 := hBZ.frozen 3
    have y4 := hBZ.frozen 4
    have y5 := hBZ.frozen 5
    have y6 := hBZ.frozen 6
    have y7 := hBZ.frozen 7
    have hlZ := hCZ.lt
    have hlB := hBZ.lt
    have HBZ := Lib.hid hBZ
    clear hM hB hC hX hR hF hMZ hFZ hBZ hCZ hk9 hkZ HM9 HB9 HC9 HX9 HR9 HF9
    go_wp2
    have hBf := HBZ.out.setL (i := 0) (us := [.string ⟨(st.want [91]).actn.1.toArray⟩, .string v.o, .string v.nm, .int .i64 v.n, .slice v.A v.ll v.cap, .int .i64 v.p, .slice A N cap, .int .i64 ((st.hd.pos : Nat) : Int)])
    simp only [setL, setLs, List.set_cons_zero, List.set_cons_succ] at hBf
    refine bodyPost_ret (v := .agg #[.string ⟨(st.want [91]).actn.1.toArray⟩, .string v.o, .string v.nm, .int .i64 v.n, .slice v.A v.ll v.cap, .int .i64 v.p, .slice A N cap, .int .i64 ((st.hd.pos : Nat) : Int)]) (by simp [results, Tryz.results112, go_sem, hBf.cell]) rfl ⟨v, A, cap, by rw [HNN.out]; rfl, ?_, ?_, ?_, ?_⟩
    · exact XO.setL (i := 0) (us := [.string ⟨(st.want [91]).actn.1.toArray⟩, .string v.o, .string v.nm, .int .i64 v.n, .slice v.A v.ll v.cap, .int .i64 v.p, .slice A N cap, .int .i64 ((st.hd.pos : Nat) : Int)]) HXZ.out (by omega)
    · have hr := HRZ.out.keep (E := E0) (Kt.setL (i := 0) (us := [.string ⟨(st.want [91]).actn.1.toArray⟩, .string v.o, .string v.nm, .int .i64 v.n, .slice v.A v.ll v.cap, .int .i64 v.p, .slice A N cap, .int .i64 ((st.hd.pos : Nat) : Int)]) (q := w.heap.size) (by omega)) id (fun _ _ h => h.keep (E := E0) (Kt.setL (i := 0) (us := [.string ⟨(st.want [91]).actn.1.toArray⟩, .string v.o, .string v.nm, .int .i64 v.n, .slice v.A v.ll v.cap, .int .i64 v.p, .slice A N cap, .int .i64 ((st.hd.pos : Nat) : Int)]) (q := w.heap.size) (by omega)) id id)
      rw [HNN.out] at hr ⊢
      exact hr
    · exact MRd.setL (i := 0) (us := [.string ⟨(st.want [91]).actn.1.toArray⟩, .string v.o, .string v.nm, .int .i64 v.n, .slice v.A v.ll v.cap, .int .i64 v.p, .slice A N cap, .int .i64 ((st.hd.pos : Nat) : Int)]) (by unfold RdT; decide) (by omega) HMZ.out HBZ.out
    · exact Fx.setL (i := 0) (us := [.string ⟨(st.want [91]).actn.1.toArray⟩, .string v.o, .string v.nm, .int .i64 v.n, .slice v.A v.ll v.cap, .int .i64 v.p, .slice A N cap, .int .i64 ((st.hd.pos : Nat) : Int)]) (.inl (Nat.le_refl _)) HFZ.out
  | false =>
    have HA := Lib.hid (show (st.want [91]).actn = ((st.want [91]).name.1.1, (st.want [91]).name.2) by simp [St.actn, hi])
    clear hi
    go_wp2_with fail
    refine (mname_any w3 HM3.out).mono ?_
    rintro e w3' ⟨rfl, hM3', hF3'⟩
    have hC3' := HC3.out.fx hF3' (HN.out _ (by omega))
    have hB3' := HB3.out.fx hF3' (HN.out _ (Nat.le_refl _))
    have HM3' := Lib.hid hM3'
    have HB3' := Lib.hid hB3'
    have HF3' := Lib.hid (HF3.out.trans hF3')
    have a0 := hC3'.cell 0
    simp only [List.getElem?_cons_zero] at a0
    have z0 := hC3'.frozen 0
    have hl3' := hC3'.lt
    have HC3' := Lib.hid hC3'
    clear hM3' hF3' hC3' hB3' HM3 HB3 HC3 HF3
    go_wp2_with fail
    refine calls_gen (P := fun W => MRd W xb rb b D (st.want [91]).actn.2 ∧ Bx W w.heap.size 60 [.string ⟨#[]⟩, .string ⟨#[]⟩, .string ⟨#[]⟩, .int .i64 0, .slice none 0 0, .int .i64 0, .slice none 0 0, .int .i64 0] ∧ Bx W w1.heap.size 60 [.string ⟨(st.want [91]).actn.1.toArray⟩, .string ⟨#[]⟩, .string ⟨#[]⟩, .int .i64 0, .slice none 0 0, .int .i64 0, .slice none 0 0, .int .i64 ((st.hd.pos : Nat) : Int)] ∧ Fx (X2 xb rb) w W) ⟨by rw [HA.out]; exact HM3'.out.set HC3'.out (by unfold RdT; decide) (by omega) _, HB3'.out.far (p := ⟨w1.heap.size, 0, none⟩) (by show w.heap.size ≠ w1.heap.size; omega) _, by rw [HA.out]; exact HC3'.out.set 0 _, HF3'.out.setCell (p := ⟨w1.heap.size, 0, none⟩) (.inl (by show _ ≤ w1.heap.size; omega)) _⟩ ?_
    rintro W ⟨hM, hB, hC, hF⟩
    refine (mwant_any W hM _).mono ?_
    rintro e w4 ⟨rfl, hM4, hF4⟩
    have HM4 := Lib.hid (show MRd w4 xb rb b D ((st.want [91]).actn.2.want [93]) from hM4)
    have HB4 := Lib.hid (hB.fx hF4 (HN.out _ (Nat.le_refl _)))
    have HC4 := Lib.hid (hC.fx hF4 (HN.out _ (by omega)))
    have HF4 := Lib.hid (hF.trans hF4)
    clear hM hB hC hF hM4 hF4
    go_wp2_with fail
    refine (mexpr_any w4 HM4.out).mono ?_
    rintro e w5 ⟨v, rfl, hX, hM5, hF5⟩
    have HM5 := Lib.hid (show MRd w5 xb rb b D (st.guard D).2 from hM5)
    have HX5 := Lib.hid (show XO w5 (w.heap.size + 1) (st.guard D).1 v.c from hX.mono (by have := HF4.out.size; omega))
    have HB5 := Lib.hid (HB4.out.fx hF5 (HN.out _ (Nat.le_refl _)))
    have hC5 := HC4.out.fx hF5 (HN.out _ (by omega))
    have HF5 := Lib.hid (HF4.out.trans hF5)
    have a0 := hC5.cell 0
    have a1 := hC5.cell 1
    have a2 := hC5.cell 2
    have a3 := hC5.cell 3
    have a4 := hC5.cell 4
    have a5 := hC5.cell 5
    have a6 := hC5.cell 6
    have a7 := hC5.cell 7
    simp only [List.getElem?_cons_zero, List.getElem?_cons_succ] at a0 a1 a2 a3 a4 a5 a6 a7
    have z0 := hC5.frozen 0
    have z1 := hC5.frozen 1
    have z2 := hC5.frozen 2
    have z3 := hC5.frozen 3
    have z4 := hC5.frozen 4
    have z5 := hC5.frozen 5
    have z6 := hC5.frozen 6
    have z7 := hC5.frozen 7
    have hl5 := hC5.lt
    have HC5 := Lib.hid hC5
    clear hX hM5 hF5 hC5 HM4 HB4 HC4 HF4
    go_wp2_with fail
    have hC5s := HC5.out.setL (i := 1) (us := [.string v.o, .string v.nm, .int .i64 v.n, .slice v.A v.ll v.cap, .int .i64 v.p])
    simp only [setL, setLs, List.set_cons_zero, List.set_cons_succ] at hC5s
    refine calls_gen (P := fun W => MRd W xb rb b D (st.guard D).2 ∧ Bx W w.heap.size 60 [.string ⟨#[]⟩, .string ⟨#[]⟩, .string ⟨#[]⟩, .int .i64 0, .slice none 0 0, .int .i64 0, .slice none 0 0, .int .i64 0] ∧ Bx W w1.heap.size 60 [.string ⟨(st.want [91]).actn.1.toArray⟩, .string v.o, .string v.nm, .int .i64 v.n, .slice v.A v.ll v.cap, .int .i64 v.p, .slice none 0 0, .int .i64 ((st.hd.pos : Nat) : Int)] ∧ XO W (w.heap.size + 1) (st.guard D).1 v.c ∧ Fx (X2 xb rb) w W) ⟨MRd.setL (i := 1) (us := [.string v.o, .string v.nm, .int .i64 v.n, .slice v.A v.ll v.cap, .int .i64 v.p]) (by unfold RdT; decide) (by omega) HM5.out HC5.out, Bx.farL (i := 1) (us := [.string v.o, .string v.nm, .int .i64 v.n, .slice v.A v.ll v.cap, .int .i64 v.p]) (by omega) HB5.out, hC5s, HX5.out.keep (Kt.com (i := 1) (us := [.string v.o, .string v.nm, .int .i64 v.n, .slice v.A v.ll v.cap, .int .i64 v.p]) HC5.out) (show ¬ (57 = 60) by decide), Fx.setL (i := 1) (us := [.string v.o, .string v.nm, .int .i64 v.n, .slice v.A v.ll v.cap, .int .i64 v.p]) (.inl (by omega)) HF5.out⟩ ?_
    rintro W2 ⟨hM, hB, hC, hX, hF⟩
    refine (mwant_any W2 hM _).mono ?_
    rintro e w6 ⟨rfl, hM6, hF6⟩
    have HM6 := Lib.hid (show MRd w6 xb rb b D ((st.guard D).2.want [45, 62]) from hM6)
    have HB6 := Lib.hid (hB.fx hF6 (HN.out _ (Nat.le_refl _)))
    have HC6 := Lib.hid (hC.fx hF6 (HN.out _ (by omega)))
    have HX6 := Lib.hid (hX.fx hF6 (fun k hk => by have := x2_lt hk hx hrb; omega))
    have HF6 := Lib.hid (hF.trans hF6)
    clear hM hB hC hX hF hM6 hF6 hC5s HM5 HB5 HC5 HX5 HF5 a0 a1 a2 a3 a4 a5 a6 a7 z0 z1 z2 z3 z4 z5 z6 z7
    go_wp2_with fail
    refine (mbranch_any w6 HM6.out).mono ?_
    rintro e w7 ⟨A0, cap0, rfl, hR, hM7, hF7⟩
    have HM7 := Lib.hid hM7
    have HR7 := Lib.hid (show Row w7 (w.heap.size + 1) 115 7 (DH w7 (w.heap.size + 1)) (((st.guard D).2.want [45, 62]).brch D).1.sets (.slice A0 (((st.guard D).2.want [45, 62]).brch D).1.sets.length cap0) from hR.mono (by have := HF6.out.size; omega) (fun _ _ h => h.mono (by have := HF6.out.size; omega)))
    have HB7 := Lib.hid (HB6.out.fx hF7 (HN.out _ (Nat.le_refl _)))
    have HC7 := Lib.hid (HC6.out.fx hF7 (HN.out _ (by omega)))
    have HX7 := Lib.hid (HX6.out.fx hF7 (fun k hk => by have := x2_lt hk hx hrb; omega))
    have HF7 := Lib.hid (HF6.out.trans hF7)
    have hs7 := HC7.out.lt
    clear hR hM7 hF7 HM6 HB6 HC6 HX6 HF6
    go_wp2_with fail
    refine calls_gen (P := fun W => MRd W xb rb b D (((st.guard D).2.want [45, 62]).brch D).2 ∧ Bx W w.heap.size 60 [.string ⟨#[]⟩, .string ⟨#[]⟩, .string ⟨#[]⟩, .int .i64 0, .slice none 0 0, .int .i64 0, .slice none 0 0, .int .i64 0] ∧ Bx W w1.heap.size 60 [.string ⟨(st.want [91]).actn.1.toArray⟩, .string v.o, .string v.nm, .int .i64 v.n, .slice v.A v.ll v.cap, .int .i64 v.p, .slice none 0 0, .int .i64 ((st.hd.pos : Nat) : Int)] ∧ XO W (w.heap.size + 1) (st.guard D).1 v.c ∧ Row W (w.heap.size + 1) 54 3 (BH W (w.heap.size + 1)) [(((st.guard D).2.want [45, 62]).brch D).1] (.slice (some ⟨w7.heap.size, 0, none⟩) 1 1) ∧ w7.heap.size < W.heap.size ∧ Fx (X2 xb rb) w W) ⟨HM7.out.alloc _, HB7.out.alloc _, HC7.out.alloc _, HX7.out.alloc _, ?_, by simp, HF7.out.alloc _⟩ ?_
    · exact Row.one (P := BH (w7.alloc _) (w.heap.size + 1)) (a := (((st.guard D).2.want [45, 62]).brch D).1) (c := [.int .i64 (((((st.guard D).2.want [45, 62]).brch D).1.wt : Nat) : Int), .slice A0 (((st.guard D).2.want [45, 62]).brch D).1.sets.length cap0, .int .i64 (((((st.guard D).2.want [45, 62]).brch D).1.pos : Nat) : Int)]) ⟨A0, cap0, rfl, HR7.out.keep (E := E0) (Kt.below ((Below.refl _ _).alloc (Nat.le_refl _) _)) id (fun _ _ h => h.keep (Kt.below (E := E0) ((Below.refl _ _).alloc (Nat.le_refl _) _)) id)⟩ rfl (by omega)
    rintro W3 ⟨hM, hB, hC, hX, hR, hwl, hF⟩
    refine (mskips_any W3 hM _).mono ?_
    rintro e w8 ⟨p, q, rfl, hcap, hp1, hq1, hp2, hq2, hb8⟩
    have HM8 := Lib.hid (hM.below hb8)
    have HB8 := Lib.hid (hB.below hb8)
    have HC8 := Lib.hid (hC.below hb8)
    have HX8 := Lib.hid (hX.below hb8)
    have HR8 := Lib.hid (hR.keep (E := E0) (Kt.below hb8) id (fun _ _ h => h.keep (Kt.below (E := E0) hb8) id id))
    have HF8 := Lib.hid (hF.on hb8)
    have HCA := Lib.hid hcap
    have HLn := Lib.hid (hM.below hb8).len
    have hs8 : w7.heap.size < w8.heap.size := by have := hb8.size; omega
    clear hM hB hC hX hR hF hb8 hcap HM7 HB7 HC7 HX7 HR7 HF7
    go_wp2_with fail
    refine (lbr_any (b1 := w.heap.size + 1) (row0 := some w7.heap.size) w8 HM8.out _ HCA.out ⟨by intro h; injection h; omega, by intro h; injection h; omega⟩ (by omega) (by omega) ⟨by omega, by omega⟩ HR8.out rfl (by have := HLn.out; simp; omega)).mono ?_
    rintro e w9 ⟨A, cap, rfl, hR9, hM9, hF9, _⟩
    have hF9' : Fx (X3 xb rb (some w7.heap.size)) w8 w9 := hF9
    have HB9 := Lib.hid (HB8.out.fx hF9' (nx3 (HN.out _ (Nat.le_refl _)) (by intro h; injection h; omega)))
    have hC9 := HC8.out.fx hF9' (nx3 (HN.out _ (by omega)) (by intro h; injection h; omega))
    have HX9 := Lib.hid (HX8.out.keep (E := fun e => e = 54) (fun k cs e hk h1 h2 => hF9'.block k (blk_lt h1) (fun hx3 => by
      rcases hx3 with rfl | rfl | hx3
      · omega
      · omega
      · injection hx3 with hx3
        subst hx3
        obtain ⟨_, ⟨cs9, h9, _⟩⟩ : True ∧ ∃ cs9, w8.ownsRow (w.heap.size + 1) 54 3 (.slice (some ⟨w7.heap.size, 0, none⟩) 1 1) 1 cs9 ∧ True := ⟨trivial, HR8.out.imp fun _ h => ⟨h.1, trivial⟩⟩
        obtain ⟨cur, hcur⟩ := (own_typ h9 w7.heap.size rfl).2
        exact h2 (blk_typ h1 hcur))) (show ¬ (57 = 54) by decide))
    have HR9 := Lib.hid hR9
    have HM9 := Lib.hid (show MRd w9 xb rb b D (((st.guard D).2.want [45, 62]).brchs D).2 from hM9)
    have HF9 := Lib.hid (HF8.out.row hF9' (fun g hg => by injection hg; omega))
    have a0 := hC9.cell 0
    have a1 := hC9.cell 1
    have a2 := hC9.cell 2
    have a3 := hC9.cell 3
    have a4 := hC9.cell 4
    have a5 := hC9.cell 5
    have a6 := hC9.cell 6
    have a7 := hC9.cell 7
    simp only [List.getElem?_cons_zero, List.getElem?_cons_succ] at a0 a1 a2 a3 a4 a5 a6 a7
    have z0 := hC9.frozen 0
    have z1 := hC9.frozen 1
    have z2 := hC9.frozen 2
    have z3 := hC9.frozen 3
    have z4 := hC9.frozen 4
    have z5 := hC9.frozen 5
    have z6 := hC9.frozen 6
    have z7 := hC9.frozen 7
    have hl9 := hC9.lt
    have HC9 := Lib.hid hC9
    obtain ⟨N, hN⟩ : ∃ N, N = (((st.guard D).2.want [45, 62]).brchs D).1.length := ⟨_, rfl⟩
    have HNN := Lib.hid hN
    rw [show ([(((st.guard D).2.want [45, 62]).brch D).1] ++ ((((st.guard D).2.want [45, 62]).brch D).2.list (fun t => isT t (⟨#[43]⟩ : ByteArray).data.toList) (fun s => s.tl.brch D)).1).length = N from hN.symm] at HR9 ⊢
    clear hR9 hM9 hF9 hF9' hC9 hN HM8 HB8 HC8 HX8 HR8 HF8
    go_wp2_with fail
    have hk9 : Kt (w.heap.size + 1) (fun e => e = 60) w9 (w9.setCell ⟨w1.heap.size, 6, none⟩ (.slice A N cap)) := Kt.com (i := 6) (us := [.slice A N cap]) HC9.out
    refine calls_gen (P := fun W => MRd W xb rb b D (((st.guard D).2.want [45, 62]).brchs D).2 ∧ Bx W w.heap.size 60 [.string ⟨#[]⟩, .string ⟨#[]⟩, .string ⟨#[]⟩, .int .i64 0, .slice none 0 0, .int .i64 0, .slice none 0 0, .int .i64 0] ∧ Bx W w1.heap.size 60 [.string ⟨(st.want [91]).actn.1.toArray⟩, .string v.o, .string v.nm, .int .i64 v.n, .slice v.A v.ll v.cap, .int .i64 v.p, .slice A N cap, .int .i64 ((st.hd.pos : Nat) : Int)] ∧ XO W (w.heap.size + 1) (st.guard D).1 v.c ∧ Row W (w.heap.size + 1) 54 3 (BH W (w.heap.size + 1)) (((st.guard D).2.want [45, 62]).brchs D).1 (.slice A N cap) ∧ Fx (X2 xb rb) w W) ⟨HM9.out.set HC9.out (by unfold RdT; decide) (by omega) _, HB9.out.far (p := ⟨w1.heap.size, 6, none⟩) (by show w.heap.size ≠ w1.heap.size; omega) _, HC9.out.set 6 _, HX9.out.keep hk9 (show ¬ (57 = 60) by decide), HR9.out.keep hk9 (show ¬ (54 = 60) by decide) (fun _ _ h => h.keep hk9 (show ¬ (57 = 60) by decide) (show ¬ (115 = 60) by decide)), HF9.out.setCell (p := ⟨w1.heap.size, 6, none⟩) (.inl (by show _ ≤ w1.heap.size; omega)) _⟩ ?_
    rintro W4 ⟨hM, hB, hC, hX, hR, hF⟩
    refine (mwant_any W4 hM _).mono ?_
    rintro e wZ ⟨rfl, hMZ, hFZ⟩
    have HMZ := Lib.hid (show MRd wZ xb rb b D (st.cmnd D).2 from hMZ)
    have hBZ := hB.fx hFZ (HN.out _ (Nat.le_refl _))
    have hCZ := hC.fx hFZ (HN.out _ (by omega))
    have hkZ : Kt (w.heap.size + 1) E0 W4 wZ := Kt.fx hFZ (fun k hk => by have := x2_lt hk hx hrb; omega)
    have HXZ := Lib.hid (hX.keep hkZ id)
    have HRZ := Lib.hid (hR.keep hkZ id (fun _ _ h => h.keep hkZ id id))
    have HFZ := Lib.hid (hF.trans hFZ)
    have a0 := hCZ.cell 0
    have a1 := hCZ.cell 1
    have a2 := hCZ.cell 2
    have a3 := hCZ.cell 3
    have a4 := hCZ.cell 4
    have a5 := hCZ.cell 5
    have a6 := hCZ.cell 6
    have a7 := hCZ.cell 7
    simp only [List.getElem?_cons_zero, List.getElem?_cons_succ] at a0 a1 a2 a3 a4 a5 a6 a7
    have d0 := hBZ.cell 0
    have d1 := hBZ.cell 1
    have d2 := hBZ.cell 2
    have d3 := hBZ.cell 3
    have d4 := hBZ.cell 4
    have d5 := hBZ.cell 5
    have d6 := hBZ.cell 6
    have d7 := hBZ.cell 7
    simp only [List.getElem?_cons_zero, List.getElem?_cons_succ] at d0 d1 d2 d3 d4 d5 d6 d7
    have y0 := hBZ.frozen 0
    have y1 := hBZ.frozen 1
    have y2 := hBZ.frozen 2
    have y3 := hBZ.frozen 3
    have y4 := hBZ.frozen 4
    have y5 := hBZ.frozen 5
    have y6 := hBZ.frozen 6
    have y7 := hBZ.frozen 7
    have hlZ := hCZ.lt
    have hlB := hBZ.lt
    have HBZ := Lib.hid hBZ
    clear hM hB hC hX hR hF hMZ hFZ hBZ hCZ hk9 hkZ HM9 HB9 HC9 HX9 HR9 HF9
    go_wp2
    have hBf := HBZ.out.setL (i := 0) (us := [.string ⟨(st.want [91]).actn.1.toArray⟩, .string v.o, .string v.nm, .int .i64 v.n, .slice v.A v.ll v.cap, .int .i64 v.p, .slice A N cap, .int .i64 ((st.hd.pos : Nat) : Int)])
    simp only [setL, setLs, List.set_cons_zero, List.set_cons_succ] at hBf
    refine bodyPost_ret (v := .agg #[.string ⟨(st.want [91]).actn.1.toArray⟩, .string v.o, .string v.nm, .int .i64 v.n, .slice v.A v.ll v.cap, .int .i64 v.p, .slice A N cap, .int .i64 ((st.hd.pos : Nat) : Int)]) (by simp [results, Tryz.results112, go_sem, hBf.cell]) rfl ⟨v, A, cap, by rw [HNN.out]; rfl, ?_, ?_, ?_, ?_⟩
    · exact XO.setL (i := 0) (us := [.string ⟨(st.want [91]).actn.1.toArray⟩, .string v.o, .string v.nm, .int .i64 v.n, .slice v.A v.ll v.cap, .int .i64 v.p, .slice A N cap, .int .i64 ((st.hd.pos : Nat) : Int)]) HXZ.out (by omega)
    · have hr := HRZ.out.keep (E := E0) (Kt.setL (i := 0) (us := [.string ⟨(st.want [91]).actn.1.toArray⟩, .string v.o, .string v.nm, .int .i64 v.n, .slice v.A v.ll v.cap, .int .i64 v.p, .slice A N cap, .int .i64 ((st.hd.pos : Nat) : Int)]) (q := w.heap.size) (by omega)) id (fun _ _ h => h.keep (E := E0) (Kt.setL (i := 0) (us := [.string ⟨(st.want [91]).actn.1.toArray⟩, .string v.o, .string v.nm, .int .i64 v.n, .slice v.A v.ll v.cap, .int .i64 v.p, .slice A N cap, .int .i64 ((st.hd.pos : Nat) : Int)]) (q := w.heap.size) (by omega)) id id)
      rw [HNN.out] at hr ⊢
      exact hr
    · exact MRd.setL (i := 0) (us := [.string ⟨(st.want [91]).actn.1.toArray⟩, .string v.o, .string v.nm, .int .i64 v.n, .slice v.A v.ll v.cap, .int .i64 v.p, .slice A N cap, .int .i64 ((st.hd.pos : Nat) : Int)]) (by unfold RdT; decide) (by omega) HMZ.out HBZ.out
    · exact Fx.setL (i := 0) (us := [.string ⟨(st.want [91]).actn.1.toArray⟩, .string v.o, .string v.nm, .int .i64 v.n, .slice v.A v.ll v.cap, .int .i64 v.p, .slice A N cap, .int .i64 ((st.hd.pos : Nat) : Int)]) (.inl (Nat.le_refl _)) HFZ.out
end
end
end Go.Proofs.YtodijgndbjfbgaaGreatDoor
