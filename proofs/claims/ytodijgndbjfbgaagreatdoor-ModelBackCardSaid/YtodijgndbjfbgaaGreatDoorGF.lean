/-
  Lists of definitions and of labels, walked.
-/
import Derived.Test.YtodijgndbjfbgaaGreatDoorGC
import Derived.Deep.AppendLies
namespace Go.Proofs.YtodijgndbjfbgaaGreatDoor
open Go.RowKit

section
variable {xb rb b D : Nat} {st : St}
theorem info_ldefn : (Tryz.prog.info? 118).map (fun i => (i.zero, i.size, i.bytes)) = some (some (.agg #[.string ⟨#[]⟩, .string ⟨#[]⟩, .string ⟨#[]⟩, .int .i64 0, .slice none 0 0, .int .i64 0, .int .i64 0]), 7, 96) := by kernel_rfl
set_option maxHeartbeats 4000000 in
set_option maxRecDepth 100000 in
theorem ldefn_any {b1 : Nat} {row0 : Option Nat} {A0 : Option Addr} {n0 cap0 : Nat} {l0 : List DefO} (w : World) (h : MRd w xb rb b D st) {p q : Nat} (x : ByteArray) (hc : CapS w xb rb p q x) (hcr : row0 ≠ some p ∧ row0 ≠ some q) (hb1 : b ≤ b1) (hbw : b1 ≤ w.heap.size) (hxr : xb < b1 ∧ rb < b1) (hrow : Row w b1 118 7 (DH w b1) l0 (.slice A0 n0 cap0)) (hr0 : (Value.slice A0 n0 cap0).ownBlock = row0) (hlen : l0.length + st.len ≤ 200000) :
    Calls Tryz.prog 78 #[.slice A0 n0 cap0, .func (.func 103) #[] #[.pointer (some ⟨p, 0, none⟩), .pointer (some ⟨q, 0, none⟩)], .func (.func 80) #[.pointer (some ⟨xb, 0, none⟩)] #[]] w (LsP 118 7 DH xb rb b D b1 row0 l0 (st.list (fun t => isT t x.data.toList) (fun s : St => s.tl.defn D)) w) := by
  obtain ⟨i0, hi0, hz⟩ := Option.map_eq_some_iff.1 info_ldefn
  simp only [Prod.mk.injEq] at hz
  obtain ⟨hz0, hz1, hz2⟩ := hz
  have HZ0 := Lib.hid hz0
  have HZ1 := Lib.hid hz1
  have HZ2 := Lib.hid hz2
  have HI := Lib.hid hi0
  have hd : Dec (fun t => isT t x.data.toList) (fun s : St => s.tl.defn D) := dec_tl (defn_le D)
  have HD := Lib.hid hd
  obtain ⟨tot, htot⟩ : ∃ tot, tot = st.list (fun t => isT t x.data.toList) (fun s : St => s.tl.defn D) := ⟨_, rfl⟩
  rw [← htot]
  have HR0 := Lib.hid (show LsRel 118 7 DH (fun t => isT t x.data.toList) (fun s : St => s.tl.defn D) xb rb b D b1 row0 l0 tot w st.len (.slice A0 n0 cap0) w from ⟨[], st, rfl, by simpa using hrow, h, by rw [htot]; simp, Fx.refl _ _, .inl hr0, by simpa using hlen⟩)
  have HC := Lib.hid (fun (wr : World) (hf : Fx (X3 xb rb row0) w wr) => hc.fx3 hf hcr)
  clear hc hcr
  clear hz0 hz1 hz2 hi0 hd h hrow hr0 hlen htot
  go_enter Tryz.func78, Tryz.ntmps78
  go_wp2
  go_loopg [0] st.len (fun gk v wr => LsRel 118 7 DH (fun t => isT t x.data.toList) (fun s : St => s.tl.defn D) xb rb b D b1 row0 l0 tot w gk v wr)
  case atStart => exact HR0.out
  case round =>
    clear HR0
    obtain ⟨acc, st1, rfl, hL⟩ := hrel
    obtain ⟨A1, cap1, hv1⟩ := hL.row.form
    subst hv1
    have HL := Lib.hid hL
    clear hL
    obtain ⟨N, hN⟩ : ∃ N, N = (l0 ++ acc).length := ⟨_, rfl⟩
    have HNN := Lib.hid hN
    rw [← hN]
    clear hN
    cases hp : isT st1.hd x.data.toList with
    | false =>
      have HAN := Lib.hid (mskipc_no wr HL.out.mr x (HC.out wr HL.out.fx) hp)
      have HT := Lib.hid (show acc = tot.1 ∧ st1 = tot.2 by
        have := HL.out.tot
        rw [list_end (p := (fun t => isT t x.data.toList)) (rd := (fun s : St => s.tl.defn D)) hp] at this
        rw [← this]; simp)
      skip
      clear hp
      go_wp2_with fail
      refine (HAN.out).mono ?_
      rintro e w1 ⟨rfl, hb1'⟩
      have HB1 := Lib.hid hb1'
      clear hb1'
      go_wp2
      go_ret
      obtain ⟨e1, e2⟩ := HT.out
      have hN := HNN.out
      subst e1 e2
      exact ⟨A1, cap1, ret_slice hN, HL.out.row.keep (E := E0) (Kt.below HB1.out) id (fun _ _ h => h.keep (Kt.below (E := E0) HB1.out) id), HL.out.mr.below HB1.out, HL.out.fx.on HB1.out, HL.out.at_⟩
    | true =>
      have HAN := Lib.hid (mskipc_yes wr HL.out.mr x (HC.out wr HL.out.fx) hp)
      have HP := Lib.hid (show (fun t => isT t x.data.toList) st1.hd = true from hp)
      have HLT := Lib.hid ((HD.out st1 hp).1)
      skip
      clear hp
      go_wp2_with fail
      refine (HAN.out).mono ?_
      rintro e w1 ⟨rfl, hM1, hF1⟩
      have HM1 := Lib.hid hM1
      have HK1 := Lib.hid hF1
      have HF1 := Lib.hid (show Fx (X3 xb rb row0) w w1 from HL.out.fx.trans hF1.three)
      have hs1 := HF1.out.size
      clear hM1 hF1
      go_wp2_with fail
      refine (mdefn_any w1 HM1.out).mono ?_
      rintro e wA ⟨v, rfl, hX, hMA, hFA⟩
      have hFA' : Fx (X3 xb rb row0) w wA := HF1.out.trans hFA.three
      have hkt : Kt b1 E0 wr wA := Kt.fx (HK1.out.trans hFA) (fun k hk => x2_lt hk hxr.1 hxr.2)
      obtain ⟨cs, hO, hLH⟩ := HL.out.row
      have HO := Lib.hid (own_kt hO hkt id)
      have HLH := Lib.hid (hLH.imp (Q := DH wA b1) (fun _ _ h => h.keep hkt id))
      have HE := Lib.hid (show DH wA b1 ((fun s : St => s.tl.defn D) st1).1 [.string ⟨(st1.tl.defn D).1.nm.toArray⟩, .string v.o, .string v.nm, .int .i64 v.n, .slice v.A v.ll v.cap, .int .i64 v.p, .int .i64 (((st1.tl.defn D).1.pos : Nat) : Int)] from ⟨v, rfl, hX.mono (by omega)⟩)
      have HMA := Lib.hid (show MRd wA xb rb b D ((fun s : St => s.tl.defn D) st1).2 from hMA)
      have HFA := Lib.hid hFA'
      have hbA : b1 ≤ wA.heap.size := by have := hFA'.size; omega
      have hNl : N ≤ 200000 := by rw [HNN.out, List.length_append]; have := HL.out.len; omega
      rw [← HNN.out] at HO
      have HOA := Lib.hid (own_kt HO.out (Kt.below (E := E0) ((Below.refl wA.heap.size wA).alloc (Nat.le_refl _) (.cells #[.string ⟨(st1.tl.defn D).1.nm.toArray⟩, .string v.o, .string v.nm, .int .i64 v.n, .slice v.A v.ll v.cap, .int .i64 v.p, .int .i64 (((st1.tl.defn D).1.pos : Nat) : Int)] 118))) id)
      clear hO hLH hFA hMA hFA' hkt hX
      go_wp2_with (at_builtin; refine wpList_append_lies _ rfl _ _ 23 rfl b1 118 i0 (.agg #[.string ⟨#[]⟩, .string ⟨#[]⟩, .string ⟨#[]⟩, .int .i64 0, .slice none 0 0, .int .i64 0, .int .i64 0]) 7 96 Tryz.underlying23 HI.out HZ0.out HZ1.out HZ2.out rfl (by decide) _ _ _ rfl HOA.out ⟨wA.heap.size, 0, none⟩ 1 1 [.string ⟨(st1.tl.defn D).1.nm.toArray⟩, .string v.o, .string v.nm, .int .i64 v.n, .slice v.A v.ll v.cap, .int .i64 v.p, .int .i64 (((st1.tl.defn D).1.pos : Nat) : Int)] rfl rfl ?c1 ?c2 (by omega) ?c3 ?c4 ?c5 (wA.heap.size + 1) (by simp) ?_)
      case c1 => intro j u hj; exact (Bx.new wA 118 [.string ⟨(st1.tl.defn D).1.nm.toArray⟩, .string v.o, .string v.nm, .int .i64 v.n, .slice v.A v.ll v.cap, .int .i64 v.p, .int .i64 (((st1.tl.defn D).1.pos : Nat) : Int)]).cell_add hj
      case c2 => intro u hu; simp only [List.mem_cons, List.not_mem_nil, or_false] at hu; rcases hu with rfl | rfl | rfl | rfl | rfl | rfl | rfl <;> rfl
      case c3 => unfold maxLen; omega
      case c4 => omega
      case c5 => simp; omega
      intro g2 cap2 w3 hown3 hgrow3 hat3 hlt3
      have HR3 := Lib.hid (HL.out.step HD.out HP.out (by unfold RdT; decide) (fun _ _ _ _ _ hk h => h.keep hk (show ¬ (57 = 118) by decide)) hb1 (c := [.string ⟨(st1.tl.defn D).1.nm.toArray⟩, .string v.o, .string v.nm, .int .i64 v.n, .slice v.A v.ll v.cap, .int .i64 v.p, .int .i64 (((st1.tl.defn D).1.pos : Nat) : Int)]) (by rw [← HNN.out]; exact HO.out) HLH.out HE.out HMA.out HFA.out (by rw [← HNN.out]; exact hown3) (by rw [← HNN.out]; exact hgrow3) (by
        rcases hat3 with e | e
        · left; rw [← HNN.out]; exact e.symm
        · right; rw [e]; rfl))
      clear hown3 hgrow3 hat3
      go_wp2
      go_roundg ((fun s : St => s.tl.defn D) st1).2.len
      case measure => exact HLT.out
      case rel => exact ⟨_, _, rfl, HR3.out⟩
theorem info_llabl : (Tryz.prog.info? 118).map (fun i => (i.zero, i.size, i.bytes)) = some (some (.agg #[.string ⟨#[]⟩, .string ⟨#[]⟩, .string ⟨#[]⟩, .int .i64 0, .slice none 0 0, .int .i64 0, .int .i64 0]), 7, 96) := by kernel_rfl
set_option maxHeartbeats 4000000 in
set_option maxRecDepth 100000 in
theorem llabl_any {b1 : Nat} {row0 : Option Nat} {A0 : Option Addr} {n0 cap0 : Nat} {l0 : List DefO} (w : World) (h : MRd w xb rb b D st) {p q : Nat} (x : ByteArray) (hc : CapS w xb rb p q x) (hcr : row0 ≠ some p ∧ row0 ≠ some q) (hb1 : b ≤ b1) (hbw : b1 ≤ w.heap.size) (hxr : xb < b1 ∧ rb < b1) (hrow : Row w b1 118 7 (DH w b1) l0 (.slice A0 n0 cap0)) (hr0 : (Value.slice A0 n0 cap0).ownBlock = row0) (hlen : l0.length + st.len ≤ 200000) :
    Calls Tryz.prog 78 #[.slice A0 n0 cap0, .func (.func 103) #[] #[.pointer (some ⟨p, 0, none⟩), .pointer (some ⟨q, 0, none⟩)], .func (.func 81) #[.pointer (some ⟨xb, 0, none⟩)] #[]] w (LsP 118 7 DH xb rb b D b1 row0 l0 (st.list (fun t => isT t x.data.toList) (fun s : St => s.tl.labl D)) w) := by
  obtain ⟨i0, hi0, hz⟩ := Option.map_eq_some_iff.1 info_llabl
  simp only [Prod.mk.injEq] at hz
  obtain ⟨hz0, hz1, hz2⟩ := hz
  have HZ0 := Lib.hid hz0
  have HZ1 := Lib.hid hz1
  have HZ2 := Lib.hid hz2
  have HI := Lib.hid hi0
  have hd : Dec (fun t => isT t x.data.toList) (fun s : St => s.tl.labl D) := dec_tl (labl_le D)
  have HD := Lib.hid hd
  obtain ⟨tot, htot⟩ : ∃ tot, tot = st.list (fun t => isT t x.data.toList) (fun s : St => s.tl.labl D) := ⟨_, rfl⟩
  rw [← htot]
  have HR0 := Lib.hid (show LsRel 118 7 DH (fun t => isT t x.data.toList) (fun s : St => s.tl.labl D) xb rb b D b1 row0 l0 tot w st.len (.slice A0 n0 cap0) w from ⟨[], st, rfl, by simpa using hrow, h, by rw [htot]; simp, Fx.refl _ _, .inl hr0, by simpa using hlen⟩)
  have HC := Lib.hid (fun (wr : World) (hf : Fx (X3 xb rb row0) w wr) => hc.fx3 hf hcr)
  clear hc hcr
  clear hz0 hz1 hz2 hi0 hd h hrow hr0 hlen htot
  go_enter Tryz.func78, Tryz.ntmps78
  go_wp2
  go_loopg [0] st.len (fun gk v wr => LsRel 118 7 DH (fun t => isT t x.data.toList) (fun s : St => s.tl.labl D) xb rb b D b1 row0 l0 tot w gk v wr)
  case atStart => exact HR0.out
  case round =>
    clear HR0
    obtain ⟨acc, st1, rfl, hL⟩ := hrel
    obtain ⟨A1, cap1, hv1⟩ := hL.row.form
    subst hv1
    have HL := Lib.hid hL
    clear hL
    obtain ⟨N, hN⟩ : ∃ N, N = (l0 ++ acc).length := ⟨_, rfl⟩
    have HNN := Lib.hid hN
    rw [← hN]
    clear hN
    cases hp : isT st1.hd x.data.toList with
    | false =>
      have HAN := Lib.hid (mskipc_no wr HL.out.mr x (HC.out wr HL.out.fx) hp)
      have HT := Lib.hid (show acc = tot.1 ∧ st1 = tot.2 by
        have := HL.out.tot
        rw [list_end (p := (fun t => isT t x.data.toList)) (rd := (fun s : St => s.tl.labl D)) hp] at this
        rw [← this]; simp)
      skip
      clear hp
      go_wp2_with fail
      refine (HAN.out).mono ?_
      rintro e w1 ⟨rfl, hb1'⟩
      have HB1 := Lib.hid hb1'
      clear hb1'
      go_wp2
      go_ret
      obtain ⟨e1, e2⟩ := HT.out
      have hN := HNN.out
      subst e1 e2
      exact ⟨A1, cap1, ret_slice hN, HL.out.row.keep (E := E0) (Kt.below HB1.out) id (fun _ _ h => h.keep (Kt.below (E := E0) HB1.out) id), HL.out.mr.below HB1.out, HL.out.fx.on HB1.out, HL.out.at_⟩
    | true =>
      have HAN := Lib.hid (mskipc_yes wr HL.out.mr x (HC.out wr HL.out.fx) hp)
      have HP := Lib.hid (show (fun t => isT t x.data.toList) st1.hd = true from hp)
      have HLT := Lib.hid ((HD.out st1 hp).1)
      skip
      clear hp
      go_wp2_with fail
      refine (HAN.out).mono ?_
      rintro e w1 ⟨rfl, hM1, hF1⟩
      have HM1 := Lib.hid hM1
      have HK1 := Lib.hid hF1
      have HF1 := Lib.hid (show Fx (X3 xb rb row0) w w1 from HL.out.fx.trans hF1.three)
      have hs1 := HF1.out.size
      clear hM1 hF1
      go_wp2_with fail
      refine (mlabel_any w1 HM1.out).mono ?_
      rintro e wA ⟨v, rfl, hX, hMA, hFA⟩
      have hFA' : Fx (X3 xb rb row0) w wA := HF1.out.trans hFA.three
      have hkt : Kt b1 E0 wr wA := Kt.fx (HK1.out.trans hFA) (fun k hk => x2_lt hk hxr.1 hxr.2)
      obtain ⟨cs, hO, hLH⟩ := HL.out.row
      have HO := Lib.hid (own_kt hO hkt id)
      have HLH := Lib.hid (hLH.imp (Q := DH wA b1) (fun _ _ h => h.keep hkt id))
      have HE := Lib.hid (show DH wA b1 ((fun s : St => s.tl.labl D) st1).1 [.string ⟨(st1.tl.labl D).1.nm.toArray⟩, .string v.o, .string v.nm, .int .i64 v.n, .slice v.A v.ll v.cap, .int .i64 v.p, .int .i64 (((st1.tl.labl D).1.pos : Nat) : Int)] from ⟨v, rfl, hX.mono (by omega)⟩)
      have HMA := Lib.hid (show MRd wA xb rb b D ((fun s : St => s.tl.labl D) st1).2 from hMA)
      have HFA := Lib.hid hFA'
      have hbA : b1 ≤ wA.heap.size := by have := hFA'.size; omega
      have hNl : N ≤ 200000 := by rw [HNN.out, List.length_append]; have := HL.out.len; omega
      rw [← HNN.out] at HO
      have HOA := Lib.hid (own_kt HO.out (Kt.below (E := E0) ((Below.refl wA.heap.size wA).alloc (Nat.le_refl _) (.cells #[.string ⟨(st1.tl.labl D).1.nm.toArray⟩, .string v.o, .string v.nm, .int .i64 v.n, .slice v.A v.ll v.cap, .int .i64 v.p, .int .i64 (((st1.tl.labl D).1.pos : Nat) : Int)] 118))) id)
      clear hO hLH hFA hMA hFA' hkt hX
      go_wp2_with (at_builtin; refine wpList_append_lies _ rfl _ _ 23 rfl b1 118 i0 (.agg #[.string ⟨#[]⟩, .string ⟨#[]⟩, .string ⟨#[]⟩, .int .i64 0, .slice none 0 0, .int .i64 0, .int .i64 0]) 7 96 Tryz.underlying23 HI.out HZ0.out HZ1.out HZ2.out rfl (by decide) _ _ _ rfl HOA.out ⟨wA.heap.size, 0, none⟩ 1 1 [.string ⟨(st1.tl.labl D).1.nm.toArray⟩, .string v.o, .string v.nm, .int .i64 v.n, .slice v.A v.ll v.cap, .int .i64 v.p, .int .i64 (((st1.tl.labl D).1.pos : Nat) : Int)] rfl rfl ?c1 ?c2 (by omega) ?c3 ?c4 ?c5 (wA.heap.size + 1) (by simp) ?_)
      case c1 => intro j u hj; exact (Bx.new wA 118 [.string ⟨(st1.tl.labl D).1.nm.toArray⟩, .string v.o, .string v.nm, .int .i64 v.n, .slice v.A v.ll v.cap, .int .i64 v.p, .int .i64 (((st1.tl.labl D).1.pos : Nat) : Int)]).cell_add hj
      case c2 => intro u hu; simp only [List.mem_cons, List.not_mem_nil, or_false] at hu; rcases hu with rfl | rfl | rfl | rfl | rfl | rfl | rfl <;> rfl
      case c3 => unfold maxLen; omega
      case c4 => omega
      case c5 => simp; omega
      intro g2 cap2 w3 hown3 hgrow3 hat3 hlt3
      have HR3 := Lib.hid (HL.out.step HD.out HP.out (by unfold RdT; decide) (fun _ _ _ _ _ hk h => h.keep hk (show ¬ (57 = 118) by decide)) hb1 (c := [.string ⟨(st1.tl.labl D).1.nm.toArray⟩, .string v.o, .string v.nm, .int .i64 v.n, .slice v.A v.ll v.cap, .int .i64 v.p, .int .i64 (((st1.tl.labl D).1.pos : Nat) : Int)]) (by rw [← HNN.out]; exact HO.out) HLH.out HE.out HMA.out HFA.out (by rw [← HNN.out]; exact hown3) (by rw [← HNN.out]; exact hgrow3) (by
        rcases hat3 with e | e
        · left; rw [← HNN.out]; exact e.symm
        · right; rw [e]; rfl))
      clear hown3 hgrow3 hat3
      go_wp2
      go_roundg ((fun s : St => s.tl.labl D) st1).2.len
      case measure => exact HLT.out
      case rel => exact ⟨_, _, rfl, HR3.out⟩
end
end Go.Proofs.YtodijgndbjfbgaaGreatDoor
