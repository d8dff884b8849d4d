/-
  Lists of commands, walked. Lists of variables, walked. A module, walked. A model in memory; the items of one kind, walked. The items of one kind, walked: constants, formulas, labels. The items of one kind, walked: modules, what is none; all of it. model, walked. Parse of models, walked. The chapter's example of models, walked.
-/
import Derived.Test.YtodijgndbjfbgaaGreatDoorGD
import Derived.Deep.AppendLies
import Derived.Test.YtodijgndbjfbgaaGreatDoorGE
import Derived.Test.YtodijgndbjfbgaaGreatDoorGF
import Derived.Deep.RegionLaw
import Derived.RegionTactic
namespace Go.Proofs.YtodijgndbjfbgaaGreatDoor
section
open Go.RowKit

section
variable {xb rb b D : Nat} {st : St}
theorem info_lcom : (Tryz.prog.info? 60).map (fun i => (i.zero, i.size, i.bytes)) = some (some (.agg #[.string ⟨#[]⟩, .string ⟨#[]⟩, .string ⟨#[]⟩, .int .i64 0, .slice none 0 0, .int .i64 0, .slice none 0 0, .int .i64 0]), 8, 120) := by kernel_rfl
set_option maxHeartbeats 4000000 in
set_option maxRecDepth 100000 in
theorem lcom_any {b1 : Nat} {row0 : Option Nat} {A0 : Option Addr} {n0 cap0 : Nat} {l0 : List CmdO} (w : World) (h : MRd w xb rb b D st) (hb1 : b ≤ b1) (hbw : b1 ≤ w.heap.size) (hxr : xb < b1 ∧ rb < b1) (hrow : Row w b1 60 8 (CH w b1) l0 (.slice A0 n0 cap0)) (hr0 : (Value.slice A0 n0 cap0).ownBlock = row0) (hlen : l0.length + st.len ≤ 200000) :
    Calls Tryz.prog 110 #[.slice A0 n0 cap0, .func (.func 111) #[.pointer (some ⟨xb, 0, none⟩)] #[], .func (.func 112) #[.pointer (some ⟨xb, 0, none⟩)] #[]] w (LsP 60 8 CH xb rb b D b1 row0 l0 (st.list (fun t => isT t [91]) (St.cmnd D)) w) := by
  obtain ⟨i0, hi0, hz⟩ := Option.map_eq_some_iff.1 info_lcom
  simp only [Prod.mk.injEq] at hz
  obtain ⟨hz0, hz1, hz2⟩ := hz
  have HZ0 := Lib.hid hz0
  have HZ1 := Lib.hid hz1
  have HZ2 := Lib.hid hz2
  have HI := Lib.hid hi0
  have hd : Dec (fun t => isT t [91]) (St.cmnd D) := dec_cmnd D
  have HD := Lib.hid hd
  obtain ⟨tot, htot⟩ : ∃ tot, tot = st.list (fun t => isT t [91]) (St.cmnd D) := ⟨_, rfl⟩
  rw [← htot]
  have HR0 := Lib.hid (show LsRel 60 8 CH (fun t => isT t [91]) (St.cmnd D) xb rb b D b1 row0 l0 tot w st.len (.slice A0 n0 cap0) w from ⟨[], st, rfl, by simpa using hrow, h, by rw [htot]; simp, Fx.refl _ _, .inl hr0, by simpa using hlen⟩)
  clear hz0 hz1 hz2 hi0 hd h hrow hr0 hlen htot
  go_enter Tryz.func110, Tryz.ntmps110
  go_wp2
  go_loopg [0] st.len (fun gk v wr => LsRel 60 8 CH (fun t => isT t [91]) (St.cmnd D) xb rb b D b1 row0 l0 tot w gk v wr)
  case atStart => exact HR0.out
  case round =>
    clear HR0
    obtain ⟨acc, st1, rfl, hL⟩ := hrel
    obtain ⟨A1, cap1, hv1⟩ := hL.row.form
    subst hv1
    have HL := Lib.hid hL
    clear hL
    obtain ⟨N, hN⟩ : ∃ N, N = (l0 ++ acc).length := ⟨_, rfl⟩
    have HNN := Lib.hid hN
    rw [← hN]
    clear hN
    cases hp : isT st1.hd [91] with
    | false =>
      have HAN := Lib.hid (miscom_any wr HL.out.mr)
      have HT := Lib.hid (show acc = tot.1 ∧ st1 = tot.2 by
        have := HL.out.tot
        rw [list_end (p := (fun t => isT t [91])) (rd := (St.cmnd D)) hp] at this
        rw [← this]; simp)
      rw [hp] at HAN
      clear hp
      go_wp2_with fail
      refine (HAN.out).mono ?_
      rintro e w1 ⟨rfl, hb1'⟩
      have HB1 := Lib.hid hb1'
      clear hb1'
      go_wp2
      go_ret
      obtain ⟨e1, e2⟩ := HT.out
      have hN := HNN.out
      subst e1 e2
      exact ⟨A1, cap1, ret_slice hN, HL.out.row.keep (E := E0) (Kt.below HB1.out) id (fun _ _ h => h.keep (Kt.below (E := E0) HB1.out) id id id), HL.out.mr.below HB1.out, HL.out.fx.on HB1.out, HL.out.at_⟩
    | true =>
      have HAN := Lib.hid (miscom_any wr HL.out.mr)
      have HP := Lib.hid (show (fun t => isT t [91]) st1.hd = true from hp)
      have HLT := Lib.hid ((HD.out st1 hp).1)
      rw [hp] at HAN
      clear hp
      go_wp2_with fail
      refine (HAN.out).mono ?_
      rintro e w1 ⟨rfl, hb1'⟩
      have HM1 := Lib.hid (HL.out.mr.below hb1')
      have HK1 := Lib.hid (Fx.of (X := X2 xb rb) hb1')
      have HF1 := Lib.hid (show Fx (X3 xb rb row0) w w1 from HL.out.fx.on hb1')
      have hs1 := HF1.out.size
      clear hb1'
      go_wp2_with fail
      refine (mcom_any w1 HM1.out).mono ?_
      rintro e wA ⟨v, A, cap, rfl, hX, hR, hMA, hFA⟩
      have hFA' : Fx (X3 xb rb row0) w wA := HF1.out.trans hFA.three
      have hkt : Kt b1 E0 wr wA := Kt.fx (HK1.out.trans hFA) (fun k hk => x2_lt hk hxr.1 hxr.2)
      obtain ⟨cs, hO, hLH⟩ := HL.out.row
      have HO := Lib.hid (own_kt hO hkt id)
      have HLH := Lib.hid (hLH.imp (Q := CH wA b1) (fun _ _ h => h.keep hkt id id id))
      have HE := Lib.hid (show CH wA b1 ((St.cmnd D) st1).1 [.string ⟨(st1.cmnd D).1.act.toArray⟩, .string v.o, .string v.nm, .int .i64 v.n, .slice v.A v.ll v.cap, .int .i64 v.p, .slice A (st1.cmnd D).1.brs.length cap, .int .i64 (((st1.cmnd D).1.pos : Nat) : Int)] from ⟨v, A, cap, rfl, hX.mono (by omega), hR.mono (by omega) (fun _ _ h => h.mono (by omega))⟩)
      have HMA := Lib.hid (show MRd wA xb rb b D ((St.cmnd D) st1).2 from hMA)
      have HFA := Lib.hid hFA'
      have hbA : b1 ≤ wA.heap.size := by have := hFA'.size; omega
      have hNl : N ≤ 200000 := by rw [HNN.out, List.length_append]; have := HL.out.len; omega
      rw [← HNN.out] at HO
      have HOA := Lib.hid (own_kt HO.out (Kt.below (E := E0) ((Below.refl wA.heap.size wA).alloc (Nat.le_refl _) (.cells #[.string ⟨(st1.cmnd D).1.act.toArray⟩, .string v.o, .string v.nm, .int .i64 v.n, .slice v.A v.ll v.cap, .int .i64 v.p, .slice A (st1.cmnd D).1.brs.length cap, .int .i64 (((st1.cmnd D).1.pos : Nat) : Int)] 60))) id)
      clear hO hLH hFA hMA hFA' hkt hX hR
      go_wp2_with (at_builtin; refine wpList_append_lies _ rfl _ _ 49 rfl b1 60 i0 (.agg #[.string ⟨#[]⟩, .string ⟨#[]⟩, .string ⟨#[]⟩, .int .i64 0, .slice none 0 0, .int .i64 0, .slice none 0 0, .int .i64 0]) 8 120 Tryz.underlying49 HI.out HZ0.out HZ1.out HZ2.out rfl (by decide) _ _ _ rfl HOA.out ⟨wA.heap.size, 0, none⟩ 1 1 [.string ⟨(st1.cmnd D).1.act.toArray⟩, .string v.o, .string v.nm, .int .i64 v.n, .slice v.A v.ll v.cap, .int .i64 v.p, .slice A (st1.cmnd D).1.brs.length cap, .int .i64 (((st1.cmnd D).1.pos : Nat) : Int)] rfl rfl ?c1 ?c2 (by omega) ?c3 ?c4 ?c5 (wA.heap.size + 1) (by simp) ?_)
      case c1 => intro j u hj; exact (Bx.new wA 60 [.string ⟨(st1.cmnd D).1.act.toArray⟩, .string v.o, .string v.nm, .int .i64 v.n, .slice v.A v.ll v.cap, .int .i64 v.p, .slice A (st1.cmnd D).1.brs.length cap, .int .i64 (((st1.cmnd D).1.pos : Nat) : Int)]).cell_add hj
      case c2 => intro u hu; simp only [List.mem_cons, List.not_mem_nil, or_false] at hu; rcases hu with rfl | rfl | rfl | rfl | rfl | rfl | rfl | rfl <;> rfl
      case c3 => unfold maxLen; omega
      case c4 => omega
      case c5 => simp; omega
      intro g2 cap2 w3 hown3 hgrow3 hat3 hlt3
      have HR3 := Lib.hid (HL.out.step HD.out HP.out (by unfold RdT; decide) (fun _ _ _ _ _ hk h => h.keep hk (show ¬ (57 = 60) by decide) (show ¬ (115 = 60) by decide) (show ¬ (54 = 60) by decide)) hb1 (c := [.string ⟨(st1.cmnd D).1.act.toArray⟩, .string v.o, .string v.nm, .int .i64 v.n, .slice v.A v.ll v.cap, .int .i64 v.p, .slice A (st1.cmnd D).1.brs.length cap, .int .i64 (((st1.cmnd D).1.pos : Nat) : Int)]) (by rw [← HNN.out]; exact HO.out) HLH.out HE.out HMA.out HFA.out (by rw [← HNN.out]; exact hown3) (by rw [← HNN.out]; exact hgrow3) (by
        rcases hat3 with e | e
        · left; rw [← HNN.out]; exact e.symm
        · right; rw [e]; rfl))
      clear hown3 hgrow3 hat3
      go_wp2
      go_roundg ((St.cmnd D) st1).2.len
      case measure => exact HLT.out
      case rel => exact ⟨_, _, rfl, HR3.out⟩
end
end
section
open Go.RowKit

section
variable {xb rb b D : Nat} {st : St}
theorem info_lvar : (Tryz.prog.info? 112).map (fun i => (i.zero, i.size, i.bytes)) = some (some (.agg #[.string ⟨#[]⟩, .bool false, .string ⟨#[]⟩, .string ⟨#[]⟩, .int .i64 0, .slice none 0 0, .int .i64 0, .string ⟨#[]⟩, .string ⟨#[]⟩, .int .i64 0, .slice none 0 0, .int .i64 0, .string ⟨#[]⟩, .string ⟨#[]⟩, .int .i64 0, .slice none 0 0, .int .i64 0, .bool false, .int .i64 0]), 19, 256) := by kernel_rfl
set_option maxHeartbeats 4000000 in
set_option maxRecDepth 100000 in
theorem lvar_any {b1 : Nat} {row0 : Option Nat} {A0 : Option Addr} {n0 cap0 : Nat} {l0 : List VarO} (w : World) (h : MRd w xb rb b D st) (hb1 : b ≤ b1) (hbw : b1 ≤ w.heap.size) (hxr : xb < b1 ∧ rb < b1) (hrow : Row w b1 112 19 (VH w b1) l0 (.slice A0 n0 cap0)) (hr0 : (Value.slice A0 n0 cap0).ownBlock = row0) (hlen : l0.length + st.len ≤ 200000) :
    Calls Tryz.prog 107 #[.slice A0 n0 cap0, .func (.func 108) #[.pointer (some ⟨xb, 0, none⟩)] #[], .func (.func 109) #[.pointer (some ⟨xb, 0, none⟩)] #[]] w (LsP 112 19 VH xb rb b D b1 row0 l0 (st.list isNm (St.vrbl D)) w) := by
  obtain ⟨i0, hi0, hz⟩ := Option.map_eq_some_iff.1 info_lvar
  simp only [Prod.mk.injEq] at hz
  obtain ⟨hz0, hz1, hz2⟩ := hz
  have HZ0 := Lib.hid hz0
  have HZ1 := Lib.hid hz1
  have HZ2 := Lib.hid hz2
  have HI := Lib.hid hi0
  have hd : Dec isNm (St.vrbl D) := dec_vrbl D
  have HD := Lib.hid hd
  obtain ⟨tot, htot⟩ : ∃ tot, tot = st.list isNm (St.vrbl D) := ⟨_, rfl⟩
  rw [← htot]
  have HR0 := Lib.hid (show LsRel 112 19 VH isNm (St.vrbl D) xb rb b D b1 row0 l0 tot w st.len (.slice A0 n0 cap0) w from ⟨[], st, rfl, by simpa using hrow, h, by rw [htot]; simp, Fx.refl _ _, .inl hr0, by simpa using hlen⟩)
  clear hz0 hz1 hz2 hi0 hd h hrow hr0 hlen htot
  go_enter Tryz.func107, Tryz.ntmps107
  go_wp2
  go_loopg [0] st.len (fun gk v wr => LsRel 112 19 VH isNm (St.vrbl D) xb rb b D b1 row0 l0 tot w gk v wr)
  case atStart => exact HR0.out
  case round =>
    clear HR0
    obtain ⟨acc, st1, rfl, hL⟩ := hrel
    obtain ⟨A1, cap1, hv1⟩ := hL.row.form
    subst hv1
    have HL := Lib.hid hL
    clear hL
    obtain ⟨N, hN⟩ : ∃ N, N = (l0 ++ acc).length := ⟨_, rfl⟩
    have HNN := Lib.hid hN
    rw [← hN]
    clear hN
    cases hp : isNm st1.hd with
    | false =>
      have HAN := Lib.hid (misname_any wr HL.out.mr)
      have HT := Lib.hid (show acc = tot.1 ∧ st1 = tot.2 by
        have := HL.out.tot
        rw [list_end (p := isNm) (rd := (St.vrbl D)) hp] at this
        rw [← this]; simp)
      rw [hp] at HAN
      clear hp
      go_wp2_with fail
      refine (HAN.out).mono ?_
      rintro e w1 ⟨rfl, hb1'⟩
      have HB1 := Lib.hid hb1'
      clear hb1'
      go_wp2
      go_ret
      obtain ⟨e1, e2⟩ := HT.out
      have hN := HNN.out
      subst e1 e2
      exact ⟨A1, cap1, ret_slice hN, HL.out.row.keep (E := E0) (Kt.below HB1.out) id (fun _ _ h => h.keep (Kt.below (E := E0) HB1.out) id), HL.out.mr.below HB1.out, HL.out.fx.on HB1.out, HL.out.at_⟩
    | true =>
      have HAN := Lib.hid (misname_any wr HL.out.mr)
      have HP := Lib.hid (show isNm st1.hd = true from hp)
      have HLT := Lib.hid ((HD.out st1 hp).1)
      rw [hp] at HAN
      clear hp
      go_wp2_with fail
      refine (HAN.out).mono ?_
      rintro e w1 ⟨rfl, hb1'⟩
      have HM1 := Lib.hid (HL.out.mr.below hb1')
      have HK1 := Lib.hid (Fx.of (X := X2 xb rb) hb1')
      have HF1 := Lib.hid (show Fx (X3 xb rb row0) w w1 from HL.out.fx.on hb1')
      have hs1 := HF1.out.size
      clear hb1'
      go_wp2_with fail
      refine (mvar_any w1 HM1.out).mono ?_
      rintro e wA ⟨v1, v2, v3, rfl, hX1, hX2, hX3, hMA, hFA⟩
      have hFA' : Fx (X3 xb rb row0) w wA := HF1.out.trans hFA.three
      have hkt : Kt b1 E0 wr wA := Kt.fx (HK1.out.trans hFA) (fun k hk => x2_lt hk hxr.1 hxr.2)
      obtain ⟨cs, hO, hLH⟩ := HL.out.row
      have HO := Lib.hid (own_kt hO hkt id)
      have HLH := Lib.hid (hLH.imp (Q := VH wA b1) (fun _ _ h => h.keep hkt id))
      have HE := Lib.hid (show VH wA b1 ((St.vrbl D) st1).1 [.string ⟨(st1.vrbl D).1.nm.toArray⟩, .bool (st1.vrbl D).1.isB, .string v1.o, .string v1.nm, .int .i64 v1.n, .slice v1.A v1.ll v1.cap, .int .i64 v1.p, .string v2.o, .string v2.nm, .int .i64 v2.n, .slice v2.A v2.ll v2.cap, .int .i64 v2.p, .string v3.o, .string v3.nm, .int .i64 v3.n, .slice v3.A v3.ll v3.cap, .int .i64 v3.p, .bool (st1.vrbl D).1.has, .int .i64 (((st1.vrbl D).1.pos : Nat) : Int)] from ⟨v1, v2, v3, rfl, hX1.mono (by omega), hX2.mono (by omega), hX3.mono (by omega)⟩)
      have HMA := Lib.hid (show MRd wA xb rb b D ((St.vrbl D) st1).2 from hMA)
      have HFA := Lib.hid hFA'
      have hbA : b1 ≤ wA.heap.size := by have := hFA'.size; omega
      have hNl : N ≤ 200000 := by rw [HNN.out, List.length_append]; have := HL.out.len; omega
      rw [← HNN.out] at HO
      have HOA := Lib.hid (own_kt HO.out (Kt.below (E := E0) ((Below.refl wA.heap.size wA).alloc (Nat.le_refl _) (.cells #[.string ⟨(st1.vrbl D).1.nm.toArray⟩, .bool (st1.vrbl D).1.isB, .string v1.o, .string v1.nm, .int .i64 v1.n, .slice v1.A v1.ll v1.cap, .int .i64 v1.p, .string v2.o, .string v2.nm, .int .i64 v2.n, .slice v2.A v2.ll v2.cap, .int .i64 v2.p, .string v3.o, .string v3.nm, .int .i64 v3.n, .slice v3.A v3.ll v3.cap, .int .i64 v3.p, .bool (st1.vrbl D).1.has, .int .i64 (((st1.vrbl D).1.pos : Nat) : Int)] 112))) id)
      clear hO hLH hFA hMA hFA' hkt hX1 hX2 hX3
      go_wp2_with (at_builtin; refine wpList_append_lies _ rfl _ _ 48 rfl b1 112 i0 (.agg #[.string ⟨#[]⟩, .bool false, .string ⟨#[]⟩, .string ⟨#[]⟩, .int .i64 0, .slice none 0 0, .int .i64 0, .string ⟨#[]⟩, .string ⟨#[]⟩, .int .i64 0, .slice none 0 0, .int .i64 0, .string ⟨#[]⟩, .string ⟨#[]⟩, .int .i64 0, .slice none 0 0, .int .i64 0, .bool false, .int .i64 0]) 19 256 Tryz.underlying48 HI.out HZ0.out HZ1.out HZ2.out rfl (by decide) _ _ _ rfl HOA.out ⟨wA.heap.size, 0, none⟩ 1 1 [.string ⟨(st1.vrbl D).1.nm.toArray⟩, .bool (st1.vrbl D).1.isB, .string v1.o, .string v1.nm, .int .i64 v1.n, .slice v1.A v1.ll v1.cap, .int .i64 v1.p, .string v2.o, .string v2.nm, .int .i64 v2.n, .slice v2.A v2.ll v2.cap, .int .i64 v2.p, .string v3.o, .string v3.nm, .int .i64 v3.n, .slice v3.A v3.ll v3.cap, .int .i64 v3.p, .bool (st1.vrbl D).1.has, .int .i64 (((st1.vrbl D).1.pos : Nat) : Int)] rfl rfl ?c1 ?c2 (by omega) ?c3 ?c4 ?c5 (wA.heap.size + 1) (by simp) ?_)
      case c1 => intro j u hj; exact (Bx.new wA 112 [.string ⟨(st1.vrbl D).1.nm.toArray⟩, .bool (st1.vrbl D).1.isB, .string v1.o, .string v1.nm, .int .i64 v1.n, .slice v1.A v1.ll v1.cap, .int .i64 v1.p, .string v2.o, .string v2.nm, .int .i64 v2.n, .slice v2.A v2.ll v2.cap, .int .i64 v2.p, .string v3.o, .string v3.nm, .int .i64 v3.n, .slice v3.A v3.ll v3.cap, .int .i64 v3.p, .bool (st1.vrbl D).1.has, .int .i64 (((st1.vrbl D).1.pos : Nat) : Int)]).cell_add hj
      case c2 => intro u hu; simp only [List.mem_cons, List.not_mem_nil, or_false] at hu; rcases hu with rfl | rfl | rfl | rfl | rfl | rfl | rfl | rfl | rfl | rfl | rfl | rfl | rfl | rfl | rfl | rfl | rfl | rfl | rfl <;> rfl
      case c3 => unfold maxLen; omega
      case c4 => omega
      case c5 => simp; omega
      intro g2 cap2 w3 hown3 hgrow3 hat3 hlt3
      have HR3 := Lib.hid (HL.out.step HD.out HP.out (by unfold RdT; decide) (fun _ _ _ _ _ hk h => h.keep hk (show ¬ (57 = 112) by decide)) hb1 (c := [.string ⟨(st1.vrbl D).1.nm.toArray⟩, .bool (st1.vrbl D).1.isB, .string v1.o, .string v1.nm, .int .i64 v1.n, .slice v1.A v1.ll v1.cap, .int .i64 v1.p, .string v2.o, .string v2.nm, .int .i64 v2.n, .slice v2.A v2.ll v2.cap, .int .i64 v2.p, .string v3.o, .string v3.nm, .int .i64 v3.n, .slice v3.A v3.ll v3.cap, .int .i64 v3.p, .bool (st1.vrbl D).1.has, .int .i64 (((st1.vrbl D).1.pos : Nat) : Int)]) (by rw [← HNN.out]; exact HO.out) HLH.out HE.out HMA.out HFA.out (by rw [← HNN.out]; exact hown3) (by rw [← HNN.out]; exact hgrow3) (by
        rcases hat3 with e | e
        · left; rw [← HNN.out]; exact e.symm
        · right; rw [e]; rfl))
      clear hown3 hgrow3 hat3
      go_wp2
      go_roundg ((St.vrbl D) st1).2.len
      case measure => exact HLT.out
      case rel => exact ⟨_, _, rfl, HR3.out⟩
end
end
section
open Go.RowKit

section
variable {xb rb b D : Nat} {st : St}
/-- What a module's reader tells. -/
def MmP (xb rb b D : Nat) (d : ModO × St) (w : World) (e : Ending) (w' : World) : Prop :=
  ∃ (A : Option Addr) (cap : Nat) (B : Option Addr) (cap' : Nat), e = .returned (.agg #[.string ⟨d.1.nm.toArray⟩, .slice A d.1.vars.length cap, .slice B d.1.cmds.length cap', .int .i64 ((d.1.pos : Nat) : Int)]) ∧ Row w' (w.heap.size + 1) 112 19 (VH w' (w.heap.size + 1)) d.1.vars (.slice A d.1.vars.length cap) ∧ Row w' (w.heap.size + 1) 60 8 (CH w' (w.heap.size + 1)) d.1.cmds (.slice B d.1.cmds.length cap') ∧ MRd w' xb rb b D d.2 ∧ Fx (X2 xb rb) w w'
theorem Kt.mod {w : World} {c q : Nat} {cs : List Value} {i : Nat} {us : List Value} (h : Bx w q 51 cs) : Kt c (fun e => e = 51) w (Go.Proofs.YtodijgndbjfbgaaGreatDoor.setL w q i us) := fun k _ _ _ h1 h2 => setL_heap (show k ≠ q from fun hkq => h2 (blk_typ (hkq ▸ h1) h)) us w i
set_option maxHeartbeats 8000000 in
theorem mmodule_any (w : World) (h : MRd w xb rb b D st) : Calls Tryz.prog 83 #[.pointer (some ⟨xb, 0, none⟩)] w (MmP xb rb b D (st.modl D) w) := by
  have hx := h.ltx
  have hrb := h.hr
  have HN := Lib.hid h.nx
  have hbl := h.ble
  have H := Lib.hid h
  clear h
  go_enter Tryz.func83, Tryz.ntmps83
  go_wp2_with fail
  refine calls_gen (P := fun W => MRd W xb rb b D st ∧ Bx W w.heap.size 51 [.string ⟨#[]⟩, .slice none 0 0, .slice none 0 0, .int .i64 0] ∧ Fx (X2 xb rb) w W) ⟨H.out.alloc _, Bx.new _ _ _, (Fx.refl _ _).alloc _⟩ ?_
  rintro W ⟨hM, hB, hF⟩
  refine (mname_any W hM).mono ?_
  rintro e w1 ⟨rfl, hM1, hF1⟩
  have HM1 := Lib.hid hM1
  have HB1 := Lib.hid (hB.fx hF1 (HN.out _ (Nat.le_refl _)))
  have HF1 := Lib.hid (hF.trans hF1)
  have hs1 := HB1.out.lt
  clear hM hB hF hM1 hF1 H
  go_wp2_with fail
  refine calls_gen (P := fun W => MRd W xb rb b D st.name.2 ∧ Bx W w.heap.size 51 [.string ⟨#[]⟩, .slice none 0 0, .slice none 0 0, .int .i64 0] ∧ Bx W w1.heap.size 51 [.string ⟨st.name.1.1.toArray⟩, .slice none 0 0, .slice none 0 0, .int .i64 ((st.name.1.2 : Nat) : Int)] ∧ Fx (X2 xb rb) w W) ⟨HM1.out.alloc _, HB1.out.alloc _, Bx.new _ _ _, HF1.out.alloc _⟩ ?_
  rintro W ⟨hM, hB, hC, hF⟩
  have hlW := hC.lt
  have hln := hM.len
  refine (lvar_any (b1 := w.heap.size + 1) (row0 := none) (l0 := []) W hM (by omega) (by omega) ⟨by omega, by omega⟩ (Row.nil _ _ _ _ _) rfl (by simp; omega)).mono ?_
  rintro e w2 ⟨A, cap, rfl, hR2, hM2, hF2, _⟩
  have hF2' : Fx (X3 xb rb none) W w2 := hF2
  have HM2 := Lib.hid (show MRd w2 xb rb b D (st.vrbls D).2 from hM2)
  have hC2 := hC.fx hF2' (nx3 (HN.out _ (by omega)) (by simp))
  have HB2 := Lib.hid (hB.fx hF2' (nx3 (HN.out _ (Nat.le_refl _)) (by simp)))
  have HF2 := Lib.hid (hF.row hF2' (fun g hg => by cases hg))
  have HR2 := Lib.hid hR2
  obtain ⟨N, hN⟩ : ∃ N, N = (st.vrbls D).1.length := ⟨_, rfl⟩
  have HNN := Lib.hid hN
  rw [show (([] : List VarO) ++ (st.name.2.list isNm (St.vrbl D)).1).length = N from hN.symm] at HR2 ⊢
  have a0 := hC2.cell 0
  have a1 := hC2.cell 1
  have a2 := hC2.cell 2
  have a3 := hC2.cell 3
  simp only [List.getElem?_cons_zero, List.getElem?_cons_succ] at a0 a1 a2 a3
  have z0 := hC2.frozen 0
  have z1 := hC2.frozen 1
  have z2 := hC2.frozen 2
  have z3 := hC2.frozen 3
  have hl2 := hC2.lt
  have HC2 := Lib.hid hC2
  clear hM hB hC hF hR2 hM2 hF2 hF2' hC2 hN HM1 HB1 HF1 hln
  go_wp2_with fail
  have hk2 : Kt (w.heap.size + 1) (fun e => e = 51) w2 (w2.setCell ⟨w1.heap.size, 1, none⟩ (.slice A N cap)) := Kt.mod (i := 1) (us := [.slice A N cap]) HC2.out
  refine calls_gen (P := fun W => MRd W xb rb b D (st.vrbls D).2 ∧ Bx W w.heap.size 51 [.string ⟨#[]⟩, .slice none 0 0, .slice none 0 0, .int .i64 0] ∧ Bx W w1.heap.size 51 [.string ⟨st.name.1.1.toArray⟩, .slice A N cap, .slice none 0 0, .int .i64 ((st.name.1.2 : Nat) : Int)] ∧ Row W (w.heap.size + 1) 112 19 (VH W (w.heap.size + 1)) (st.vrbls D).1 (.slice A N cap) ∧ Fx (X2 xb rb) w W) ⟨HM2.out.set HC2.out (by unfold RdT; decide) (by omega) _, HB2.out.far (p := ⟨w1.heap.size, 1, none⟩) (by show w.heap.size ≠ w1.heap.size; omega) _, HC2.out.set 1 _, HR2.out.keep hk2 (show ¬ (112 = 51) by decide) (fun _ _ h => h.keep hk2 (show ¬ (57 = 51) by decide)), HF2.out.setCell (p := ⟨w1.heap.size, 1, none⟩) (.inl (by show _ ≤ w1.heap.size; omega)) _⟩ ?_
  rintro W3 ⟨hM, hB, hC, hR, hF⟩
  have hlW3 := hC.lt
  have hln := hM.len
  refine (lcom_any (b1 := w.heap.size + 1) (row0 := none) (l0 := []) W3 hM (by omega) (by omega) ⟨by omega, by omega⟩ (Row.nil _ _ _ _ _) rfl (by simp; omega)).mono ?_
  rintro e w4 ⟨B, cap', rfl, hR4, hM4, hF4, _⟩
  have hF4' : Fx (X3 xb rb none) W3 w4 := hF4
  have hF42 : Fx (X2 xb rb) W3 w4 := hF4'.wide fun _ _ => x3_none
  have HM4 := Lib.hid (show MRd w4 xb rb b D (st.cmnds D).2 from hM4)
  have hC4 := hC.fx hF42 (HN.out _ (by omega))
  have HB4 := Lib.hid (hB.fx hF42 (HN.out _ (Nat.le_refl _)))
  have HF4 := Lib.hid (hF.trans hF42)
  have hk4 : Kt (w.heap.size + 1) E0 W3 w4 := Kt.fx hF42 (fun k hk => by have := x2_lt hk hx hrb; omega)
  have HRv := Lib.hid (hR.keep hk4 id (fun _ _ h => h.keep hk4 id))
  have HR4 := Lib.hid hR4
  obtain ⟨K, hK⟩ : ∃ K, K = (st.cmnds D).1.length := ⟨_, rfl⟩
  have HKK := Lib.hid hK
  rw [show (([] : List CmdO) ++ ((st.vrbls D).2.list (fun t => isT t [91]) (St.cmnd D)).1).length = K from hK.symm] at HR4 ⊢
  have a0 := hC4.cell 0
  have a1 := hC4.cell 1
  have a2 := hC4.cell 2
  have a3 := hC4.cell 3
  simp only [List.getElem?_cons_zero, List.getElem?_cons_succ] at a0 a1 a2 a3
  have z0 := hC4.frozen 0
  have z1 := hC4.frozen 1
  have z2 := hC4.frozen 2
  have z3 := hC4.frozen 3
  have hl4 := hC4.lt
  have HC4 := Lib.hid hC4
  clear hM hB hC hR hF hR4 hM4 hF4 hF4' hF42 hC4 hk2 hk4 hK HM2 HB2 HC2 HR2 HF2 hln
  go_wp2_with fail
  have hk5 : Kt (w.heap.size + 1) (fun e => e = 51) w4 (w4.setCell ⟨w1.heap.size, 2, none⟩ (.slice B K cap')) := Kt.mod (i := 2) (us := [.slice B K cap']) HC4.out
  refine calls_gen (P := fun W => MRd W xb rb b D (st.cmnds D).2 ∧ Bx W w.heap.size 51 [.string ⟨#[]⟩, .slice none 0 0, .slice none 0 0, .int .i64 0] ∧ Bx W w1.heap.size 51 [.string ⟨st.name.1.1.toArray⟩, .slice A N cap, .slice B K cap', .int .i64 ((st.name.1.2 : Nat) : Int)] ∧ Row W (w.heap.size + 1) 112 19 (VH W (w.heap.size + 1)) (st.vrbls D).1 (.slice A N cap) ∧ Row W (w.heap.size + 1) 60 8 (CH W (w.heap.size + 1)) (st.cmnds D).1 (.slice B K cap') ∧ Fx (X2 xb rb) w W) ⟨HM4.out.set HC4.out (by unfold RdT; decide) (by omega) _, HB4.out.far (p := ⟨w1.heap.size, 2, none⟩) (by show w.heap.size ≠ w1.heap.size; omega) _, HC4.out.set 2 _, HRv.out.keep hk5 (show ¬ (112 = 51) by decide) (fun _ _ h => h.keep hk5 (show ¬ (57 = 51) by decide)), HR4.out.keep hk5 (show ¬ (60 = 51) by decide) (fun _ _ h => h.keep hk5 (show ¬ (57 = 51) by decide) (show ¬ (115 = 51) by decide) (show ¬ (54 = 51) by decide)), HF4.out.setCell (p := ⟨w1.heap.size, 2, none⟩) (.inl (by show _ ≤ w1.heap.size; omega)) _⟩ ?_
  rintro W5 ⟨hM, hB, hC, hR, hRc, hF⟩
  refine (mwant_any W5 hM _).mono ?_
  rintro e wZ ⟨rfl, hMZ, hFZ⟩
  have HMZ := Lib.hid (show MRd wZ xb rb b D (st.modl D).2 from hMZ)
  have hBZ := hB.fx hFZ (HN.out _ (Nat.le_refl _))
  have hCZ := hC.fx hFZ (HN.out _ (by omega))
  have hkZ : Kt (w.heap.size + 1) E0 W5 wZ := Kt.fx hFZ (fun k hk => by have := x2_lt hk hx hrb; omega)
  have HRZ := Lib.hid (hR.keep hkZ id (fun _ _ h => h.keep hkZ id))
  have HRC := Lib.hid (hRc.keep hkZ id (fun _ _ h => h.keep hkZ id id id))
  have HFZ := Lib.hid (hF.trans hFZ)
  have a0 := hCZ.cell 0
  have a1 := hCZ.cell 1
  have a2 := hCZ.cell 2
  have a3 := hCZ.cell 3
  simp only [List.getElem?_cons_zero, List.getElem?_cons_succ] at a0 a1 a2 a3
  have d0 := hBZ.cell 0
  have d1 := hBZ.cell 1
  have d2 := hBZ.cell 2
  have d3 := hBZ.cell 3
  simp only [List.getElem?_cons_zero, List.getElem?_cons_succ] at d0 d1 d2 d3
  have y0 := hBZ.frozen 0
  have y1 := hBZ.frozen 1
  have y2 := hBZ.frozen 2
  have y3 := hBZ.frozen 3
  have hlZ := hCZ.lt
  have hlB := hBZ.lt
  have HBZ := Lib.hid hBZ
  clear hM hB hC hR hRc hF hMZ hFZ hBZ hCZ hkZ hk5 HM4 HB4 HC4 HR4 HRv HF4
  go_wp2
  have hBf := HBZ.out.setL (i := 0) (us := [.string ⟨st.name.1.1.toArray⟩, .slice A N cap, .slice B K cap', .int .i64 ((st.name.1.2 : Nat) : Int)])
  simp only [setL, setLs, List.set_cons_zero, List.set_cons_succ] at hBf
  have hks : Kt (w.heap.size + 1) E0 wZ (setL wZ w.heap.size 0 [.string ⟨st.name.1.1.toArray⟩, .slice A N cap, .slice B K cap', .int .i64 ((st.name.1.2 : Nat) : Int)]) := Kt.setL (by omega)
  refine bodyPost_ret (v := .agg #[.string ⟨st.name.1.1.toArray⟩, .slice A N cap, .slice B K cap', .int .i64 ((st.name.1.2 : Nat) : Int)]) (by simp [results, Tryz.results83, go_sem, hBf.cell]) rfl ⟨A, cap, B, cap', by rw [HNN.out, HKK.out]; rfl, ?_, ?_, ?_, ?_⟩
  · have hr := HRZ.out.keep hks id (fun _ _ h => h.keep hks id)
    rw [HNN.out, HKK.out] at hr
    rw [HNN.out, HKK.out]
    exact hr
  · have hr := HRC.out.keep hks id (fun _ _ h => h.keep hks id id id)
    rw [HNN.out, HKK.out] at hr
    rw [HNN.out, HKK.out]
    exact hr
  · exact MRd.setL (i := 0) (us := [.string ⟨st.name.1.1.toArray⟩, .slice A N cap, .slice B K cap', .int .i64 ((st.name.1.2 : Nat) : Int)]) (by unfold RdT; decide) (by omega) HMZ.out HBZ.out
  · exact Fx.setL (i := 0) (us := [.string ⟨st.name.1.1.toArray⟩, .slice A N cap, .slice B K cap', .int .i64 ((st.name.1.2 : Nat) : Int)]) (.inl (Nat.le_refl _)) HFZ.out
theorem info_lmod : (Tryz.prog.info? 51).map (fun i => (i.zero, i.size, i.bytes)) = some (some (.agg #[.string ⟨#[]⟩, .slice none 0 0, .slice none 0 0, .int .i64 0]), 4, 72) := by kernel_rfl
set_option maxHeartbeats 4000000 in
set_option maxRecDepth 100000 in
theorem lmod_any {b1 : Nat} {row0 : Option Nat} {A0 : Option Addr} {n0 cap0 : Nat} {l0 : List ModO} (w : World) (h : MRd w xb rb b D st) {p q : Nat} (x : ByteArray) (hc : CapS w xb rb p q x) (hcr : row0 ≠ some p ∧ row0 ≠ some q) (hb1 : b ≤ b1) (hbw : b1 ≤ w.heap.size) (hxr : xb < b1 ∧ rb < b1) (hrow : Row w b1 51 4 (MH w b1) l0 (.slice A0 n0 cap0)) (hr0 : (Value.slice A0 n0 cap0).ownBlock = row0) (hlen : l0.length + st.len ≤ 200000) :
    Calls Tryz.prog 82 #[.slice A0 n0 cap0, .func (.func 103) #[] #[.pointer (some ⟨p, 0, none⟩), .pointer (some ⟨q, 0, none⟩)], .func (.func 83) #[.pointer (some ⟨xb, 0, none⟩)] #[]] w (LsP 51 4 MH xb rb b D b1 row0 l0 (st.list (fun t => isT t x.data.toList) (fun s : St => s.tl.modl D)) w) := by
  obtain ⟨i0, hi0, hz⟩ := Option.map_eq_some_iff.1 info_lmod
  simp only [Prod.mk.injEq] at hz
  obtain ⟨hz0, hz1, hz2⟩ := hz
  have HZ0 := Lib.hid hz0
  have HZ1 := Lib.hid hz1
  have HZ2 := Lib.hid hz2
  have HI := Lib.hid hi0
  have hd : Dec (fun t => isT t x.data.toList) (fun s : St => s.tl.modl D) := dec_tl (modl_le D)
  have HD := Lib.hid hd
  obtain ⟨tot, htot⟩ : ∃ tot, tot = st.list (fun t => isT t x.data.toList) (fun s : St => s.tl.modl D) := ⟨_, rfl⟩
  rw [← htot]
  have HR0 := Lib.hid (show LsRel 51 4 MH (fun t => isT t x.data.toList) (fun s : St => s.tl.modl D) xb rb b D b1 row0 l0 tot w st.len (.slice A0 n0 cap0) w from ⟨[], st, rfl, by simpa using hrow, h, by rw [htot]; simp, Fx.refl _ _, .inl hr0, by simpa using hlen⟩)
  have HC := Lib.hid (fun (wr : World) (hf : Fx (X3 xb rb row0) w wr) => hc.fx3 hf hcr)
  clear hc hcr
  clear hz0 hz1 hz2 hi0 hd h hrow hr0 hlen htot
  go_enter Tryz.func82, Tryz.ntmps82
  go_wp2
  go_loopg [0] st.len (fun gk v wr => LsRel 51 4 MH (fun t => isT t x.data.toList) (fun s : St => s.tl.modl D) xb rb b D b1 row0 l0 tot w gk v wr)
  case atStart => exact HR0.out
  case round =>
    clear HR0
    obtain ⟨acc, st1, rfl, hL⟩ := hrel
    obtain ⟨A1, cap1, hv1⟩ := hL.row.form
    subst hv1
    have HL := Lib.hid hL
    clear hL
    obtain ⟨N, hN⟩ : ∃ N, N = (l0 ++ acc).length := ⟨_, rfl⟩
    have HNN := Lib.hid hN
    rw [← hN]
    clear hN
    cases hp : isT st1.hd x.data.toList with
    | false =>
      have HAN := Lib.hid (mskipc_no wr HL.out.mr x (HC.out wr HL.out.fx) hp)
      have HT := Lib.hid (show acc = tot.1 ∧ st1 = tot.2 by
        have := HL.out.tot
        rw [list_end (p := (fun t => isT t x.data.toList)) (rd := (fun s : St => s.tl.modl D)) hp] at this
        rw [← this]; simp)
      skip
      clear hp
      go_wp2_with fail
      refine (HAN.out).mono ?_
      rintro e w1 ⟨rfl, hb1'⟩
      have HB1 := Lib.hid hb1'
      clear hb1'
      go_wp2
      go_ret
      obtain ⟨e1, e2⟩ := HT.out
      have hN := HNN.out
      subst e1 e2
      exact ⟨A1, cap1, ret_slice hN, HL.out.row.keep (E := E0) (Kt.below HB1.out) id (fun _ _ h => h.keep (Kt.below (E := E0) HB1.out) id id id id id), HL.out.mr.below HB1.out, HL.out.fx.on HB1.out, HL.out.at_⟩
    | true =>
      have HAN := Lib.hid (mskipc_yes wr HL.out.mr x (HC.out wr HL.out.fx) hp)
      have HP := Lib.hid (show (fun t => isT t x.data.toList) st1.hd = true from hp)
      have HLT := Lib.hid ((HD.out st1 hp).1)
      skip
      clear hp
      go_wp2_with fail
      refine (HAN.out).mono ?_
      rintro e w1 ⟨rfl, hM1, hF1⟩
      have HM1 := Lib.hid hM1
      have HK1 := Lib.hid hF1
      have HF1 := Lib.hid (show Fx (X3 xb rb row0) w w1 from HL.out.fx.trans hF1.three)
      have hs1 := HF1.out.size
      clear hM1 hF1
      go_wp2_with fail
      refine (mmodule_any w1 HM1.out).mono ?_
      rintro e wA ⟨A, cap, B, cap', rfl, hRv, hRc, hMA, hFA⟩
      have hFA' : Fx (X3 xb rb row0) w wA := HF1.out.trans hFA.three
      have hkt : Kt b1 E0 wr wA := Kt.fx (HK1.out.trans hFA) (fun k hk => x2_lt hk hxr.1 hxr.2)
      obtain ⟨cs, hO, hLH⟩ := HL.out.row
      have HO := Lib.hid (own_kt hO hkt id)
      have HLH := Lib.hid (hLH.imp (Q := MH wA b1) (fun _ _ h => h.keep hkt id id id id id))
      have HE := Lib.hid (show MH wA b1 ((fun s : St => s.tl.modl D) st1).1 [.string ⟨(st1.tl.modl D).1.nm.toArray⟩, .slice A (st1.tl.modl D).1.vars.length cap, .slice B (st1.tl.modl D).1.cmds.length cap', .int .i64 (((st1.tl.modl D).1.pos : Nat) : Int)] from ⟨A, cap, B, cap', rfl, hRv.mono (by omega) (fun _ _ h => h.mono (by omega)), hRc.mono (by omega) (fun _ _ h => h.mono (by omega))⟩)
      have HMA := Lib.hid (show MRd wA xb rb b D ((fun s : St => s.tl.modl D) st1).2 from hMA)
      have HFA := Lib.hid hFA'
      have hbA : b1 ≤ wA.heap.size := by have := hFA'.size; omega
      have hNl : N ≤ 200000 := by rw [HNN.out, List.length_append]; have := HL.out.len; omega
      rw [← HNN.out] at HO
      have HOA := Lib.hid (own_kt HO.out (Kt.below (E := E0) ((Below.refl wA.heap.size wA).alloc (Nat.le_refl _) (.cells #[.string ⟨(st1.tl.modl D).1.nm.toArray⟩, .slice A (st1.tl.modl D).1.vars.length cap, .slice B (st1.tl.modl D).1.cmds.length cap', .int .i64 (((st1.tl.modl D).1.pos : Nat) : Int)] 51))) id)
      clear hO hLH hFA hMA hFA' hkt hRv hRc
      go_wp2_with (at_builtin; refine wpList_append_lies _ rfl _ _ 24 rfl b1 51 i0 (.agg #[.string ⟨#[]⟩, .slice none 0 0, .slice none 0 0, .int .i64 0]) 4 72 Tryz.underlying24 HI.out HZ0.out HZ1.out HZ2.out rfl (by decide) _ _ _ rfl HOA.out ⟨wA.heap.size, 0, none⟩ 1 1 [.string ⟨(st1.tl.modl D).1.nm.toArray⟩, .slice A (st1.tl.modl D).1.vars.length cap, .slice B (st1.tl.modl D).1.cmds.length cap', .int .i64 (((st1.tl.modl D).1.pos : Nat) : Int)] rfl rfl ?c1 ?c2 (by omega) ?c3 ?c4 ?c5 (wA.heap.size + 1) (by simp) ?_)
      case c1 => intro j u hj; exact (Bx.new wA 51 [.string ⟨(st1.tl.modl D).1.nm.toArray⟩, .slice A (st1.tl.modl D).1.vars.length cap, .slice B (st1.tl.modl D).1.cmds.length cap', .int .i64 (((st1.tl.modl D).1.pos : Nat) : Int)]).cell_add hj
      case c2 => intro u hu; simp only [List.mem_cons, List.not_mem_nil, or_false] at hu; rcases hu with rfl | rfl | rfl | rfl <;> rfl
      case c3 => unfold maxLen; omega
      case c4 => omega
      case c5 => simp; omega
      intro g2 cap2 w3 hown3 hgrow3 hat3 hlt3
      have HR3 := Lib.hid (HL.out.step HD.out HP.out (by unfold RdT; decide) (fun _ _ _ _ _ hk h => h.keep hk (show ¬ (57 = 51) by decide) (show ¬ (115 = 51) by decide) (show ¬ (54 = 51) by decide) (show ¬ (112 = 51) by decide) (show ¬ (60 = 51) by decide)) hb1 (c := [.string ⟨(st1.tl.modl D).1.nm.toArray⟩, .slice A (st1.tl.modl D).1.vars.length cap, .slice B (st1.tl.modl D).1.cmds.length cap', .int .i64 (((st1.tl.modl D).1.pos : Nat) : Int)]) (by rw [← HNN.out]; exact HO.out) HLH.out HE.out HMA.out HFA.out (by rw [← HNN.out]; exact hown3) (by rw [← HNN.out]; exact hgrow3) (by
        rcases hat3 with e | e
        · left; rw [← HNN.out]; exact e.symm
        · right; rw [e]; rfl))
      clear hown3 hgrow3 hat3
      go_wp2
      go_roundg ((fun s : St => s.tl.modl D) st1).2.len
      case measure => exact HLT.out
      case rel => exact ⟨_, _, rfl, HR3.out⟩
end
end
section
open Go.RowKit

/-- A model in its box; its lists lie apart, from b1 on. -/
structure MdV where
  A1 : Option Addr
  c1 : Nat
  A2 : Option Addr
  c2 : Nat
  A3 : Option Addr
  c3 : Nat
  A4 : Option Addr
  c4 : Nat
def MdV.v1 (v : MdV) (m : MdlO) : Value := .slice v.A1 m.consts.length v.c1
def MdV.v2 (v : MdV) (m : MdlO) : Value := .slice v.A2 m.formulas.length v.c2
def MdV.v3 (v : MdV) (m : MdlO) : Value := .slice v.A3 m.labels.length v.c3
def MdV.v4 (v : MdV) (m : MdlO) : Value := .slice v.A4 m.mods.length v.c4
def Apart (u v : Value) : Prop := ∀ g, u.ownBlock = some g → v.ownBlock ≠ some g
theorem Apart.symm {u v : Value} (h : Apart u v) : Apart v u := fun g h1 h2 => h g h2 h1
structure MdR (w : World) (b1 : Nat) (m : MdlO) (v : MdV) : Prop where
  r1 : Row w b1 118 7 (DH w b1) m.consts (v.v1 m)
  r2 : Row w b1 118 7 (DH w b1) m.formulas (v.v2 m)
  r3 : Row w b1 118 7 (DH w b1) m.labels (v.v3 m)
  r4 : Row w b1 51 4 (MH w b1) m.mods (v.v4 m)
  d12 : Apart (v.v1 m) (v.v2 m)
  d13 : Apart (v.v1 m) (v.v3 m)
  d23 : Apart (v.v2 m) (v.v3 m)
def MdM (w : World) (b1 mb : Nat) (m : MdlO) : Prop := ∃ v : MdV, Bx w mb 26 [v.v1 m, v.v2 m, v.v3 m, v.v4 m] ∧ MdR w b1 m v
section
variable {w w' : World} {b1 mb : Nat} {m : MdlO}
theorem MdR.keep {v : MdV} (h : MdR w b1 m v) (hk : Kt b1 E0 w w') : MdR w' b1 m v :=
  ⟨h.r1.keep hk id (fun _ _ h => h.keep hk id), h.r2.keep hk id (fun _ _ h => h.keep hk id), h.r3.keep hk id (fun _ _ h => h.keep hk id), h.r4.keep hk id (fun _ _ h => h.keep hk id id id id id), h.d12, h.d13, h.d23⟩
theorem MdR.keepM {v : MdV} (h : MdR w b1 m v) (hk : Kt b1 (fun e => e = 26) w w') : MdR w' b1 m v :=
  ⟨h.r1.keep hk (show ¬ (118 = 26) by decide) (fun _ _ h => h.keep hk (show ¬ (57 = 26) by decide)), h.r2.keep hk (show ¬ (118 = 26) by decide) (fun _ _ h => h.keep hk (show ¬ (57 = 26) by decide)), h.r3.keep hk (show ¬ (118 = 26) by decide) (fun _ _ h => h.keep hk (show ¬ (57 = 26) by decide)), h.r4.keep hk (show ¬ (51 = 26) by decide) (fun _ _ h => h.keep hk (show ¬ (57 = 26) by decide) (show ¬ (115 = 26) by decide) (show ¬ (54 = 26) by decide) (show ¬ (112 = 26) by decide) (show ¬ (60 = 26) by decide)), h.d12, h.d13, h.d23⟩
theorem Kt.mdl {c q : Nat} {cs : List Value} {i : Nat} {u : Value} (h : Bx w q 26 cs) : Kt c (fun e => e = 26) w (w.setCell ⟨q, i, none⟩ u) := fun k _ _ _ h1 h2 => Below.heap_setCell w ⟨q, i, none⟩ u k (show k ≠ q from fun hkq => h2 (blk_typ (hkq ▸ h1) h))
theorem MdM.below (h : MdM w b1 mb m) (hb : Below w.heap.size w w') : MdM w' b1 mb m := by
  obtain ⟨v, h1, h2⟩ := h
  exact ⟨v, h1.below hb, h2.keep (Kt.below hb)⟩
/-- A list of another row, of the same type. -/
theorem Row.keepB {α : Type} {t : TypeId} {sz : Nat} {xs : List α} {v : Value} {P : World → Nat → α → List Value → Prop} (h : Row w b1 t sz (P w b1) xs v) (hblk : ∀ g, v.ownBlock = some g → w'.heap[g]? = w.heap[g]?) (hp : ∀ a c, P w b1 a c → P w' b1 a c) : Row w' b1 t sz (P w' b1) xs v := by
  obtain ⟨cs, h1, h2⟩ := h
  refine ⟨cs, ⟨h1.1, ?_⟩, h2.imp hp⟩
  rcases h1.2 with h | ⟨g, cap, cur, h3, h4, h5, h6⟩
  · exact .inl h
  · exact .inr ⟨g, cap, cur, h3, h4, (hblk g (by rw [h3]; rfl)).trans h5, h6⟩
theorem Row.ownb {α : Type} {t : TypeId} {sz : Nat} {xs : List α} {v : Value} {P : α → List Value → Prop} (h : Row w b1 t sz P xs v) : ∀ g, v.ownBlock = some g → b1 ≤ g ∧ ∃ cur : Array Value, w.heap[g]? = some (.cells cur t (0, 0)) := by
  obtain ⟨cs, h1, _⟩ := h
  exact own_typ h1
theorem kt_row {xb rb : Nat} {t : TypeId} {u : Value} (hf : Fx (X3 xb rb u.ownBlock) w w') (hx : xb < b1) (hr : rb < b1) (hu : ∀ g, u.ownBlock = some g → ∃ cur : Array Value, w.heap[g]? = some (.cells cur t (0, 0))) : Kt b1 (fun e => e = t) w w' := by
  intro k cs e hk h1 h2
  refine hf.block k (blk_lt h1) (fun h3 => ?_)
  rcases h3 with h3 | h3 | h3
  · omega
  · omega
  · obtain ⟨cur, h4⟩ := hu k h3
    exact h2 (blk_typ h1 h4)
end
/-- What has been appended to one of the four lists. -/
def MdlO.put (m : MdlO) (i : Nat) (l : List DefO) : MdlO := if i = 0 then { m with consts := m.consts ++ l } else if i = 1 then { m with formulas := m.formulas ++ l } else { m with labels := m.labels ++ l }
section
variable {w w' : World} {b1 xb rb : Nat} {m : MdlO} {v : MdV}
theorem ap_new {u u' : Value} {row : Option Nat} (hd : ∀ g, row = some g → u'.ownBlock ≠ some g) (hl : ∀ g, u'.ownBlock = some g → g < w.heap.size) (h : u.ownBlock = row ∨ ∀ g, u.ownBlock = some g → w.heap.size ≤ g) : Apart u u' := by
  intro g hg hg'
  rcases h with h | h
  · exact hd g (h.symm.trans hg) hg'
  · have := h g hg
    have := hl g hg'
    omega
theorem Row.ltb {α : Type} {t : TypeId} {sz : Nat} {xs : List α} {u : Value} {P : α → List Value → Prop} (h : Row w b1 t sz P xs u) : ∀ g, u.ownBlock = some g → g < w.heap.size := fun g hg => by
  obtain ⟨_, cur, h1⟩ := h.ownb g hg
  exact blk_lt h1
theorem x3_ne {k : Nat} {row : Option Nat} (h1 : xb < k) (h2 : rb < k) (h3 : row ≠ some k) : ¬ X3 xb rb row k := fun h => by
  rcases h with h | h | h
  · omega
  · omega
  · exact h3 h
/-- The constants have grown. -/
theorem MdR.put1 {l : List DefO} {A : Option Addr} {cap : Nat} (h : MdR w b1 m v) (hx : xb < b1) (hr : rb < b1) (hf : Fx (X3 xb rb (v.v1 m).ownBlock) w w') (hR : Row w' b1 118 7 (DH w' b1) (m.consts ++ l) (.slice A (m.consts ++ l).length cap)) (hat : (Value.slice A (m.consts ++ l).length cap).ownBlock = (v.v1 m).ownBlock ∨ ∀ g, (Value.slice A (m.consts ++ l).length cap).ownBlock = some g → w.heap.size ≤ g) :
    MdR w' b1 { m with consts := m.consts ++ l } { v with A1 := A, c1 := cap } := by
  have hk := kt_row hf hx hr (fun g hg => (h.r1.ownb g hg).2)
  exact ⟨hR, h.r2.keepB (fun g hg => hf.block g (h.r2.ltb g hg) (x3_ne (by have := (h.r2.ownb g hg).1; omega) (by have := (h.r2.ownb g hg).1; omega) (fun e => h.d12 g e hg))) (fun _ _ h => h.keep hk (show ¬ (57 = 118) by decide)),
    h.r3.keepB (fun g hg => hf.block g (h.r3.ltb g hg) (x3_ne (by have := (h.r3.ownb g hg).1; omega) (by have := (h.r3.ownb g hg).1; omega) (fun e => h.d13 g e hg))) (fun _ _ h => h.keep hk (show ¬ (57 = 118) by decide)),
    h.r4.keep hk (show ¬ (51 = 118) by decide) (fun _ _ h => h.keep hk (show ¬ (57 = 118) by decide) (show ¬ (115 = 118) by decide) (show ¬ (54 = 118) by decide) (show ¬ (112 = 118) by decide) (show ¬ (60 = 118) by decide)),
    ap_new (w := w) (fun g hg => h.d12 g hg) h.r2.ltb hat, ap_new (w := w) (fun g hg => h.d13 g hg) h.r3.ltb hat, h.d23⟩
/-- The formulas have grown. -/
theorem MdR.put2 {l : List DefO} {A : Option Addr} {cap : Nat} (h : MdR w b1 m v) (hx : xb < b1) (hr : rb < b1) (hf : Fx (X3 xb rb (v.v2 m).ownBlock) w w') (hR : Row w' b1 118 7 (DH w' b1) (m.formulas ++ l) (.slice A (m.formulas ++ l).length cap)) (hat : (Value.slice A (m.formulas ++ l).length cap).ownBlock = (v.v2 m).ownBlock ∨ ∀ g, (Value.slice A (m.formulas ++ l).length cap).ownBlock = some g → w.heap.size ≤ g) :
    MdR w' b1 { m with formulas := m.formulas ++ l } { v with A2 := A, c2 := cap } := by
  have hk := kt_row hf hx hr (fun g hg => (h.r2.ownb g hg).2)
  exact ⟨h.r1.keepB (fun g hg => hf.block g (h.r1.ltb g hg) (x3_ne (by have := (h.r1.ownb g hg).1; omega) (by have := (h.r1.ownb g hg).1; omega) (fun e => h.d12 g hg e))) (fun _ _ h => h.keep hk (show ¬ (57 = 118) by decide)), hR,
    h.r3.keepB (fun g hg => hf.block g (h.r3.ltb g hg) (x3_ne (by have := (h.r3.ownb g hg).1; omega) (by have := (h.r3.ownb g hg).1; omega) (fun e => h.d23 g e hg))) (fun _ _ h => h.keep hk (show ¬ (57 = 118) by decide)),
    h.r4.keep hk (show ¬ (51 = 118) by decide) (fun _ _ h => h.keep hk (show ¬ (57 = 118) by decide) (show ¬ (115 = 118) by decide) (show ¬ (54 = 118) by decide) (show ¬ (112 = 118) by decide) (show ¬ (60 = 118) by decide)),
    (ap_new (w := w) (fun g hg hg' => h.d12 g hg' hg) h.r1.ltb hat).symm, h.d13, ap_new (w := w) (fun g hg => h.d23 g hg) h.r3.ltb hat⟩
/-- The labels have grown. -/
theorem MdR.put3 {l : List DefO} {A : Option Addr} {cap : Nat} (h : MdR w b1 m v) (hx : xb < b1) (hr : rb < b1) (hf : Fx (X3 xb rb (v.v3 m).ownBlock) w w') (hR : Row w' b1 118 7 (DH w' b1) (m.labels ++ l) (.slice A (m.labels ++ l).length cap)) (hat : (Value.slice A (m.labels ++ l).length cap).ownBlock = (v.v3 m).ownBlock ∨ ∀ g, (Value.slice A (m.labels ++ l).length cap).ownBlock = some g → w.heap.size ≤ g) :
    MdR w' b1 { m with labels := m.labels ++ l } { v with A3 := A, c3 := cap } := by
  have hk := kt_row hf hx hr (fun g hg => (h.r3.ownb g hg).2)
  exact ⟨h.r1.keepB (fun g hg => hf.block g (h.r1.ltb g hg) (x3_ne (by have := (h.r1.ownb g hg).1; omega) (by have := (h.r1.ownb g hg).1; omega) (fun e => h.d13 g hg e))) (fun _ _ h => h.keep hk (show ¬ (57 = 118) by decide)),
    h.r2.keepB (fun g hg => hf.block g (h.r2.ltb g hg) (x3_ne (by have := (h.r2.ownb g hg).1; omega) (by have := (h.r2.ownb g hg).1; omega) (fun e => h.d23 g hg e))) (fun _ _ h => h.keep hk (show ¬ (57 = 118) by decide)), hR,
    h.r4.keep hk (show ¬ (51 = 118) by decide) (fun _ _ h => h.keep hk (show ¬ (57 = 118) by decide) (show ¬ (115 = 118) by decide) (show ¬ (54 = 118) by decide) (show ¬ (112 = 118) by decide) (show ¬ (60 = 118) by decide)),
    h.d12, (ap_new (w := w) (fun g hg hg' => h.d13 g hg' hg) h.r1.ltb hat).symm, (ap_new (w := w) (fun g hg hg' => h.d23 g hg' hg) h.r2.ltb hat).symm⟩
/-- The modules have grown. -/
theorem MdR.put4 {l : List ModO} {A : Option Addr} {cap : Nat} (h : MdR w b1 m v) (hx : xb < b1) (hr : rb < b1) (hf : Fx (X3 xb rb (v.v4 m).ownBlock) w w') (hR : Row w' b1 51 4 (MH w' b1) (m.mods ++ l) (.slice A (m.mods ++ l).length cap)) :
    MdR w' b1 { m with mods := m.mods ++ l } { v with A4 := A, c4 := cap } := by
  have hk := kt_row hf hx hr (fun g hg => (h.r4.ownb g hg).2)
  exact ⟨h.r1.keep hk (show ¬ (118 = 51) by decide) (fun _ _ h => h.keep hk (show ¬ (57 = 51) by decide)), h.r2.keep hk (show ¬ (118 = 51) by decide) (fun _ _ h => h.keep hk (show ¬ (57 = 51) by decide)), h.r3.keep hk (show ¬ (118 = 51) by decide) (fun _ _ h => h.keep hk (show ¬ (57 = 51) by decide)), hR, h.d12, h.d13, h.d23⟩
end
end
section
open Go.RowKit

section
variable {xb rb b D : Nat} {st : St}
/-- What items leaves. -/
def ItP (xb rb b D mb : Nat) (w0 : World) (r : MdlO × St) (e : Ending) (w' : World) : Prop := e = .returned (.tuple #[]) ∧ MRd w' xb rb b D r.2 ∧ MdM w' w0.heap.size mb r.1 ∧ Fx (X2 xb rb) w0 w'
set_option maxHeartbeats 4000000 in
set_option maxRecDepth 100000 in
theorem mitems_0 {mb : Nat} {m : MdlO} (w0 w : World) (h : MRd w xb rb b D st) (hm : MdM w w0.heap.size mb m) (hmb : w0.heap.size ≤ mb) (hbb : b ≤ w0.heap.size) (hx : xb < w0.heap.size) (hrb : rb < w0.heap.size) (hF : Fx (X2 xb rb) w0 w) (hlen : m.consts.length + st.len ≤ 200000) (hi : isT st.hd wConst = true) :
    Calls Tryz.prog 46 #[.pointer (some ⟨xb, 0, none⟩), .pointer (some ⟨mb, 0, none⟩)] w (ItP xb rb b D mb w0 ({ m with consts := m.consts ++ (constsL D st).1 }, (constsL D st).2)) := by
  have HI0 := Lib.hid (fun (W : World) (hW : MRd W xb rb b D st) => hW.is_ ⟨#[99, 111, 110, 115, 116]⟩)
  rw [show isT st.hd (⟨#[99, 111, 110, 115, 116]⟩ : ByteArray).data.toList = true from hi] at HI0
  have HM0 := Lib.hid h
  have HV0 := Lib.hid hm
  have HF0 := Lib.hid hF
  have c0 := h.c0
  have hx0 := h.ltx
  clear h hm hF hi
  go_enter Tryz.func46, Tryz.ntmps46
  go_wp2_with fail
  refine (HI0.out _ HM0.out).mono ?_
  rintro e u1 ⟨rfl, hb0⟩
  have HM1 := Lib.hid (HM0.out.below hb0)
  have HV1 := Lib.hid (HV0.out.below hb0)
  have HF1 := Lib.hid (HF0.out.on hb0)
  have c0 := HM1.out.c0
  have hx0 := HM1.out.ltx
  clear hb0 HM0 HV0 HF0
  obtain ⟨v, hB, hR⟩ := HV1.out
  have hbx := hB.cell 0
  simp only [List.getElem?_cons_zero, MdV.v1] at hbx
  have hbf := hB.frozen 0
  have hmbl := hB.lt
  have HRR := Lib.hid hR
  have HBB := Lib.hid hB
  have hsz := HF1.out.size
  have hrl : ∀ g, (Value.slice v.A1 m.consts.length v.c1).ownBlock = some g → g < u1.heap.size := hR.r1.ltb
  have hrt : ∀ g, (Value.slice v.A1 m.consts.length v.c1).ownBlock = some g → g ≠ mb := fun g hg e => by
    obtain ⟨_, cur, h1⟩ := hR.r1.ownb g hg
    exact absurd (blk_typ h1 (e ▸ hB)) (by decide)
  have HRL := Lib.hid hrl
  have HRT := Lib.hid hrt
  obtain ⟨N, hN⟩ : ∃ N, N = m.consts.length := ⟨_, rfl⟩
  have HNN := Lib.hid hN
  rw [← hN] at hbx
  have HSK := Lib.hid (mskips_any u1.drew HM1.out.drew ⟨#[99, 111, 110, 115, 116]⟩)
  clear hB hR hrl hrt hN
  go_wp2_with fail
  go_region_law (first
    | (go_simp
       go_at_call 79
       (with_reducible refine (HSK.out).mono ?_)
       rintro e w5 ⟨p, q, rfl, hcap, hp1, hq1, hp2, hq2, hb5⟩
       have hb5' : Below u1.heap.size u1 w5 := (Below.refl u1.heap.size u1).drew.trans hb5
       have hbx5 : w5.cell? ⟨mb, 0, none⟩ = some (.slice v.A1 N v.c1) := (hb5'.cell (p := ⟨mb, 0, none⟩) hmbl).trans hbx
       have hbf5 : w5.frozen? ⟨mb, 0, none⟩ = false := (hb5'.frozen (p := ⟨mb, 0, none⟩) hmbl).trans hbf
       have hmb5 : mb < w5.heap.size := Nat.lt_of_lt_of_le hmbl hb5'.size
       have HB5 := Lib.hid hb5'
       have HCA := Lib.hid hcap
       have hs5 := hb5'.size
       clear hb5 hb5' hcap)
    | (go_simp
       go_at_call 78
       rw [HNN.out]
       refine (ldefn_any (b1 := w0.heap.size) (row0 := (Value.slice v.A1 m.consts.length v.c1).ownBlock) (l0 := m.consts) w5 (HM1.out.below HB5.out) _ HCA.out ?k1 hbb ?k2 ⟨hx, hrb⟩ ?k3 rfl hlen).mono ?_
       case k1 => exact ⟨fun e => absurd (HRL.out p e) (by have : u1.drew.heap.size ≤ p := hp1; have e2 : u1.drew.heap.size = u1.heap.size := rfl; omega), fun e => absurd (HRL.out q e) (by have : u1.drew.heap.size ≤ q := hq1; have e2 : u1.drew.heap.size = u1.heap.size := rfl; omega)⟩
       case k2 => omega
       case k3 => exact (HRR.out.keep (Kt.below HB5.out)).r1
       rintro e w6 ⟨A, cap, rfl, hR6, hM6, hF6, hat6⟩
       have hF6' : Fx (X3 xb rb (v.v1 m).ownBlock) w5 w6 := hF6
       have hB6 := (HBB.out.below HB5.out).fx hF6' (fun hx3 => by
         rcases hx3 with e | e | e
         · omega
         · omega
         · exact HRT.out mb e rfl)
       have hbx6 := hB6.cell 0
       have hbf6 := hB6.frozen 0
       have hmb6 := hB6.lt
       have HB6 := Lib.hid hB6
       have HR6 := Lib.hid ((HRR.out.keep (Kt.below HB5.out)).put1 hx hrb hF6' hR6 hat6)
       have HM6 := Lib.hid hM6
       have HF6 := Lib.hid ((HF1.out.on HB5.out).row hF6' (fun g hg => (HRR.out.r1.ownb g hg).1))
       simp only [List.getElem?_cons_zero, MdV.v1] at hbx6
       clear hB6 hR6 hM6 hF6 hF6' hat6))
  all_goals go_wp2
  all_goals go_end0
  all_goals refine ⟨rfl, HM6.out.set HB6.out (by unfold RdT; decide) (by omega) _, ⟨{ v with A1 := A, c1 := cap }, ?_, HR6.out.keepM (Kt.mdl HB6.out)⟩, HF6.out.setCell (p := ⟨mb, 0, none⟩) (.inl hmb) _⟩
  all_goals rw [← List.length_append]
  all_goals exact HB6.out.set 0 _
set_option maxHeartbeats 4000000 in
set_option maxRecDepth 100000 in
theorem mitems_1 {mb : Nat} {m : MdlO} (w0 w : World) (h : MRd w xb rb b D st) (hm : MdM w w0.heap.size mb m) (hmb : w0.heap.size ≤ mb) (hbb : b ≤ w0.heap.size) (hx : xb < w0.heap.size) (hrb : rb < w0.heap.size) (hF : Fx (X2 xb rb) w0 w) (hlen : m.formulas.length + st.len ≤ 200000) (h0 : isT st.hd wConst = false) (hi : isT st.hd wFormula = true) :
    Calls Tryz.prog 46 #[.pointer (some ⟨xb, 0, none⟩), .pointer (some ⟨mb, 0, none⟩)] w (ItP xb rb b D mb w0 ({ m with formulas := m.formulas ++ (formsL D st).1 }, (formsL D st).2)) := by
  have HI0 := Lib.hid (fun (W : World) (hW : MRd W xb rb b D st) => hW.is_ ⟨#[99, 111, 110, 115, 116]⟩)
  rw [show isT st.hd (⟨#[99, 111, 110, 115, 116]⟩ : ByteArray).data.toList = false from h0] at HI0
  have HI1 := Lib.hid (fun (W : World) (hW : MRd W xb rb b D st) => hW.is_ ⟨#[102, 111, 114, 109, 117, 108, 97]⟩)
  rw [show isT st.hd (⟨#[102, 111, 114, 109, 117, 108, 97]⟩ : ByteArray).data.toList = true from hi] at HI1
  have HM0 := Lib.hid h
  have HV0 := Lib.hid hm
  have HF0 := Lib.hid hF
  have c0 := h.c0
  have hx0 := h.ltx
  clear h hm hF hi h0
  go_enter Tryz.func46, Tryz.ntmps46
  go_wp2_with fail
  refine (HI0.out _ HM0.out).mono ?_
  rintro e u1 ⟨rfl, hb0⟩
  have HM1 := Lib.hid (HM0.out.below hb0)
  have HV1 := Lib.hid (HV0.out.below hb0)
  have HF1 := Lib.hid (HF0.out.on hb0)
  have c0 := HM1.out.c0
  have hx0 := HM1.out.ltx
  clear hb0 HM0 HV0 HF0
  go_wp2_with fail
  refine (HI1.out _ HM1.out).mono ?_
  rintro e u2 ⟨rfl, hb1⟩
  have HM2 := Lib.hid (HM1.out.below hb1)
  have HV2 := Lib.hid (HV1.out.below hb1)
  have HF2 := Lib.hid (HF1.out.on hb1)
  have c0 := HM2.out.c0
  have hx0 := HM2.out.ltx
  clear hb1 HM1 HV1 HF1
  obtain ⟨v, hB, hR⟩ := HV2.out
  have hbx := hB.cell 1
  simp only [List.getElem?_cons_zero, List.getElem?_cons_succ, MdV.v2] at hbx
  have hbf := hB.frozen 1
  have hmbl := hB.lt
  have HRR := Lib.hid hR
  have HBB := Lib.hid hB
  have hsz := HF2.out.size
  have hrl : ∀ g, (Value.slice v.A2 m.formulas.length v.c2).ownBlock = some g → g < u2.heap.size := hR.r2.ltb
  have hrt : ∀ g, (Value.slice v.A2 m.formulas.length v.c2).ownBlock = some g → g ≠ mb := fun g hg e => by
    obtain ⟨_, cur, h1⟩ := hR.r2.ownb g hg
    exact absurd (blk_typ h1 (e ▸ hB)) (by decide)
  have HRL := Lib.hid hrl
  have HRT := Lib.hid hrt
  obtain ⟨N, hN⟩ : ∃ N, N = m.formulas.length := ⟨_, rfl⟩
  have HNN := Lib.hid hN
  rw [← hN] at hbx
  have HSK := Lib.hid (mskips_any u2.drew HM2.out.drew ⟨#[102, 111, 114, 109, 117, 108, 97]⟩)
  clear hB hR hrl hrt hN
  go_wp2_with fail
  go_region_law (first
    | (go_simp
       go_at_call 79
       (with_reducible refine (HSK.out).mono ?_)
       rintro e w5 ⟨p, q, rfl, hcap, hp1, hq1, hp2, hq2, hb5⟩
       have hb5' : Below u2.heap.size u2 w5 := (Below.refl u2.heap.size u2).drew.trans hb5
       have hbx5 : w5.cell? ⟨mb, 1, none⟩ = some (.slice v.A2 N v.c2) := (hb5'.cell (p := ⟨mb, 1, none⟩) hmbl).trans hbx
       have hbf5 : w5.frozen? ⟨mb, 1, none⟩ = false := (hb5'.frozen (p := ⟨mb, 1, none⟩) hmbl).trans hbf
       have hmb5 : mb < w5.heap.size := Nat.lt_of_lt_of_le hmbl hb5'.size
       have HB5 := Lib.hid hb5'
       have HCA := Lib.hid hcap
       have hs5 := hb5'.size
       clear hb5 hb5' hcap)
    | (go_simp
       go_at_call 78
       rw [HNN.out]
       refine (ldefn_any (b1 := w0.heap.size) (row0 := (Value.slice v.A2 m.formulas.length v.c2).ownBlock) (l0 := m.formulas) w5 (HM2.out.below HB5.out) _ HCA.out ?k1 hbb ?k2 ⟨hx, hrb⟩ ?k3 rfl hlen).mono ?_
       case k1 => exact ⟨fun e => absurd (HRL.out p e) (by have : u2.drew.heap.size ≤ p := hp1; have e2 : u2.drew.heap.size = u2.heap.size := rfl; omega), fun e => absurd (HRL.out q e) (by have : u2.drew.heap.size ≤ q := hq1; have e2 : u2.drew.heap.size = u2.heap.size := rfl; omega)⟩
       case k2 => omega
       case k3 => exact (HRR.out.keep (Kt.below HB5.out)).r2
       rintro e w6 ⟨A, cap, rfl, hR6, hM6, hF6, hat6⟩
       have hF6' : Fx (X3 xb rb (v.v2 m).ownBlock) w5 w6 := hF6
       have hB6 := (HBB.out.below HB5.out).fx hF6' (fun hx3 => by
         rcases hx3 with e | e | e
         · omega
         · omega
         · exact HRT.out mb e rfl)
       have hbx6 := hB6.cell 1
       have hbf6 := hB6.frozen 1
       have hmb6 := hB6.lt
       have HB6 := Lib.hid hB6
       have HR6 := Lib.hid ((HRR.out.keep (Kt.below HB5.out)).put2 hx hrb hF6' hR6 hat6)
       have HM6 := Lib.hid hM6
       have HF6 := Lib.hid ((HF2.out.on HB5.out).row hF6' (fun g hg => (HRR.out.r2.ownb g hg).1))
       simp only [List.getElem?_cons_zero, List.getElem?_cons_succ, MdV.v2] at hbx6
       clear hB6 hR6 hM6 hF6 hF6' hat6))
  all_goals go_wp2
  all_goals go_end0
  all_goals refine ⟨rfl, HM6.out.set HB6.out (by unfold RdT; decide) (by omega) _, ⟨{ v with A2 := A, c2 := cap }, ?_, HR6.out.keepM (Kt.mdl HB6.out)⟩, HF6.out.setCell (p := ⟨mb, 1, none⟩) (.inl hmb) _⟩
  all_goals rw [← List.length_append]
  all_goals exact HB6.out.set 1 _
set_option maxHeartbeats 4000000 in
set_option maxRecDepth 100000 in
theorem mitems_2 {mb : Nat} {m : MdlO} (w0 w : World) (h : MRd w xb rb b D st) (hm : MdM w w0.heap.size mb m) (hmb : w0.heap.size ≤ mb) (hbb : b ≤ w0.heap.size) (hx : xb < w0.heap.size) (hrb : rb < w0.heap.size) (hF : Fx (X2 xb rb) w0 w) (hlen : m.labels.length + st.len ≤ 200000) (h0 : isT st.hd wConst = false) (h1 : isT st.hd wFormula = false) (hi : isT st.hd wLabel = true) :
    Calls Tryz.prog 46 #[.pointer (some ⟨xb, 0, none⟩), .pointer (some ⟨mb, 0, none⟩)] w (ItP xb rb b D mb w0 ({ m with labels := m.labels ++ (lablsL D st).1 }, (lablsL D st).2)) := by
  have HI0 := Lib.hid (fun (W : World) (hW : MRd W xb rb b D st) => hW.is_ ⟨#[99, 111, 110, 115, 116]⟩)
  rw [show isT st.hd (⟨#[99, 111, 110, 115, 116]⟩ : ByteArray).data.toList = false from h0] at HI0
  have HI1 := Lib.hid (fun (W : World) (hW : MRd W xb rb b D st) => hW.is_ ⟨#[102, 111, 114, 109, 117, 108, 97]⟩)
  rw [show isT st.hd (⟨#[102, 111, 114, 109, 117, 108, 97]⟩ : ByteArray).data.toList = false from h1] at HI1
  have HI2 := Lib.hid (fun (W : World) (hW : MRd W xb rb b D st) => hW.is_ ⟨#[108, 97, 98, 101, 108]⟩)
  rw [show isT st.hd (⟨#[108, 97, 98, 101, 108]⟩ : ByteArray).data.toList = true from hi] at HI2
  have HM0 := Lib.hid h
  have HV0 := Lib.hid hm
  have HF0 := Lib.hid hF
  have c0 := h.c0
  have hx0 := h.ltx
  clear h hm hF hi h0 h1
  go_enter Tryz.func46, Tryz.ntmps46
  go_wp2_with fail
  refine (HI0.out _ HM0.out).mono ?_
  rintro e u1 ⟨rfl, hb0⟩
  have HM1 := Lib.hid (HM0.out.below hb0)
  have HV1 := Lib.hid (HV0.out.below hb0)
  have HF1 := Lib.hid (HF0.out.on hb0)
  have c0 := HM1.out.c0
  have hx0 := HM1.out.ltx
  clear hb0 HM0 HV0 HF0
  go_wp2_with fail
  refine (HI1.out _ HM1.out).mono ?_
  rintro e u2 ⟨rfl, hb1⟩
  have HM2 := Lib.hid (HM1.out.below hb1)
  have HV2 := Lib.hid (HV1.out.below hb1)
  have HF2 := Lib.hid (HF1.out.on hb1)
  have c0 := HM2.out.c0
  have hx0 := HM2.out.ltx
  clear hb1 HM1 HV1 HF1
  go_wp2_with fail
  refine (HI2.out _ HM2.out).mono ?_
  rintro e u3 ⟨rfl, hb2⟩
  have HM3 := Lib.hid (HM2.out.below hb2)
  have HV3 := Lib.hid (HV2.out.below hb2)
  have HF3 := Lib.hid (HF2.out.on hb2)
  have c0 := HM3.out.c0
  have hx0 := HM3.out.ltx
  clear hb2 HM2 HV2 HF2
  obtain ⟨v, hB, hR⟩ := HV3.out
  have hbx := hB.cell 2
  simp only [List.getElem?_cons_zero, List.getElem?_cons_succ, MdV.v3] at hbx
  have hbf := hB.frozen 2
  have hmbl := hB.lt
  have HRR := Lib.hid hR
  have HBB := Lib.hid hB
  have hsz := HF3.out.size
  have hrl : ∀ g, (Value.slice v.A3 m.labels.length v.c3).ownBlock = some g → g < u3.heap.size := hR.r3.ltb
  have hrt : ∀ g, (Value.slice v.A3 m.labels.length v.c3).ownBlock = some g → g ≠ mb := fun g hg e => by
    obtain ⟨_, cur, h1⟩ := hR.r3.ownb g hg
    exact absurd (blk_typ h1 (e ▸ hB)) (by decide)
  have HRL := Lib.hid hrl
  have HRT := Lib.hid hrt
  obtain ⟨N, hN⟩ : ∃ N, N = m.labels.length := ⟨_, rfl⟩
  have HNN := Lib.hid hN
  rw [← hN] at hbx
  have HSK := Lib.hid (mskips_any u3.drew HM3.out.drew ⟨#[108, 97, 98, 101, 108]⟩)
  clear hB hR hrl hrt hN
  go_wp2_with fail
  go_region_law (first
    | (go_simp
       go_at_call 79
       (with_reducible refine (HSK.out).mono ?_)
       rintro e w5 ⟨p, q, rfl, hcap, hp1, hq1, hp2, hq2, hb5⟩
       have hb5' : Below u3.heap.size u3 w5 := (Below.refl u3.heap.size u3).drew.trans hb5
       have hbx5 : w5.cell? ⟨mb, 2, none⟩ = some (.slice v.A3 N v.c3) := (hb5'.cell (p := ⟨mb, 2, none⟩) hmbl).trans hbx
       have hbf5 : w5.frozen? ⟨mb, 2, none⟩ = false := (hb5'.frozen (p := ⟨mb, 2, none⟩) hmbl).trans hbf
       have hmb5 : mb < w5.heap.size := Nat.lt_of_lt_of_le hmbl hb5'.size
       have HB5 := Lib.hid hb5'
       have HCA := Lib.hid hcap
       have hs5 := hb5'.size
       clear hb5 hb5' hcap)
    | (go_simp
       go_at_call 78
       rw [HNN.out]
       refine (llabl_any (b1 := w0.heap.size) (row0 := (Value.slice v.A3 m.labels.length v.c3).ownBlock) (l0 := m.labels) w5 (HM3.out.below HB5.out) _ HCA.out ?k1 hbb ?k2 ⟨hx, hrb⟩ ?k3 rfl hlen).mono ?_
       case k1 => exact ⟨fun e => absurd (HRL.out p e) (by have : u3.drew.heap.size ≤ p := hp1; have e2 : u3.drew.heap.size = u3.heap.size := rfl; omega), fun e => absurd (HRL.out q e) (by have : u3.drew.heap.size ≤ q := hq1; have e2 : u3.drew.heap.size = u3.heap.size := rfl; omega)⟩
       case k2 => omega
       case k3 => exact (HRR.out.keep (Kt.below HB5.out)).r3
       rintro e w6 ⟨A, cap, rfl, hR6, hM6, hF6, hat6⟩
       have hF6' : Fx (X3 xb rb (v.v3 m).ownBlock) w5 w6 := hF6
       have hB6 := (HBB.out.below HB5.out).fx hF6' (fun hx3 => by
         rcases hx3 with e | e | e
         · omega
         · omega
         · exact HRT.out mb e rfl)
       have hbx6 := hB6.cell 2
       have hbf6 := hB6.frozen 2
       have hmb6 := hB6.lt
       have HB6 := Lib.hid hB6
       have HR6 := Lib.hid ((HRR.out.keep (Kt.below HB5.out)).put3 hx hrb hF6' hR6 hat6)
       have HM6 := Lib.hid hM6
       have HF6 := Lib.hid ((HF3.out.on HB5.out).row hF6' (fun g hg => (HRR.out.r3.ownb g hg).1))
       simp only [List.getElem?_cons_zero, List.getElem?_cons_succ, MdV.v3] at hbx6
       clear hB6 hR6 hM6 hF6 hF6' hat6))
  all_goals go_wp2
  all_goals go_end0
  all_goals refine ⟨rfl, HM6.out.set HB6.out (by unfold RdT; decide) (by omega) _, ⟨{ v with A3 := A, c3 := cap }, ?_, HR6.out.keepM (Kt.mdl HB6.out)⟩, HF6.out.setCell (p := ⟨mb, 2, none⟩) (.inl hmb) _⟩
  all_goals rw [← List.length_append]
  all_goals exact HB6.out.set 2 _
end
end
section
open Go.RowKit

section
variable {xb rb b D : Nat} {st : St}
set_option maxHeartbeats 4000000 in
set_option maxRecDepth 100000 in
theorem mitems_3 {mb : Nat} {m : MdlO} (w0 w : World) (h : MRd w xb rb b D st) (hm : MdM w w0.heap.size mb m) (hmb : w0.heap.size ≤ mb) (hbb : b ≤ w0.heap.size) (hx : xb < w0.heap.size) (hrb : rb < w0.heap.size) (hF : Fx (X2 xb rb) w0 w) (hlen : m.mods.length + st.len ≤ 200000) (h0 : isT st.hd wConst = false) (h1 : isT st.hd wFormula = false) (h2 : isT st.hd wLabel = false) (hi : isT st.hd wModule = true) :
    Calls Tryz.prog 46 #[.pointer (some ⟨xb, 0, none⟩), .pointer (some ⟨mb, 0, none⟩)] w (ItP xb rb b D mb w0 ({ m with mods := m.mods ++ (modsL D st).1 }, (modsL D st).2)) := by
  have HI0 := Lib.hid (fun (W : World) (hW : MRd W xb rb b D st) => hW.is_ ⟨#[99, 111, 110, 115, 116]⟩)
  rw [show isT st.hd (⟨#[99, 111, 110, 115, 116]⟩ : ByteArray).data.toList = false from h0] at HI0
  have HI1 := Lib.hid (fun (W : World) (hW : MRd W xb rb b D st) => hW.is_ ⟨#[102, 111, 114, 109, 117, 108, 97]⟩)
  rw [show isT st.hd (⟨#[102, 111, 114, 109, 117, 108, 97]⟩ : ByteArray).data.toList = false from h1] at HI1
  have HI2 := Lib.hid (fun (W : World) (hW : MRd W xb rb b D st) => hW.is_ ⟨#[108, 97, 98, 101, 108]⟩)
  rw [show isT st.hd (⟨#[108, 97, 98, 101, 108]⟩ : ByteArray).data.toList = false from h2] at HI2
  have HI3 := Lib.hid (fun (W : World) (hW : MRd W xb rb b D st) => hW.is_ ⟨#[109, 111, 100, 117, 108, 101]⟩)
  rw [show isT st.hd (⟨#[109, 111, 100, 117, 108, 101]⟩ : ByteArray).data.toList = true from hi] at HI3
  have HM0 := Lib.hid h
  have HV0 := Lib.hid hm
  have HF0 := Lib.hid hF
  have c0 := h.c0
  have hx0 := h.ltx
  clear h hm hF hi h0 h1 h2
  go_enter Tryz.func46, Tryz.ntmps46
  go_wp2_with fail
  refine (HI0.out _ HM0.out).mono ?_
  rintro e u1 ⟨rfl, hb0⟩
  have HM1 := Lib.hid (HM0.out.below hb0)
  have HV1 := Lib.hid (HV0.out.below hb0)
  have HF1 := Lib.hid (HF0.out.on hb0)
  have c0 := HM1.out.c0
  have hx0 := HM1.out.ltx
  clear hb0 HM0 HV0 HF0
  go_wp2_with fail
  refine (HI1.out _ HM1.out).mono ?_
  rintro e u2 ⟨rfl, hb1⟩
  have HM2 := Lib.hid (HM1.out.below hb1)
  have HV2 := Lib.hid (HV1.out.below hb1)
  have HF2 := Lib.hid (HF1.out.on hb1)
  have c0 := HM2.out.c0
  have hx0 := HM2.out.ltx
  clear hb1 HM1 HV1 HF1
  go_wp2_with fail
  refine (HI2.out _ HM2.out).mono ?_
  rintro e u3 ⟨rfl, hb2⟩
  have HM3 := Lib.hid (HM2.out.below hb2)
  have HV3 := Lib.hid (HV2.out.below hb2)
  have HF3 := Lib.hid (HF2.out.on hb2)
  have c0 := HM3.out.c0
  have hx0 := HM3.out.ltx
  clear hb2 HM2 HV2 HF2
  go_wp2_with fail
  refine (HI3.out _ HM3.out).mono ?_
  rintro e u4 ⟨rfl, hb3⟩
  have HM4 := Lib.hid (HM3.out.below hb3)
  have HV4 := Lib.hid (HV3.out.below hb3)
  have HF4 := Lib.hid (HF3.out.on hb3)
  have c0 := HM4.out.c0
  have hx0 := HM4.out.ltx
  clear hb3 HM3 HV3 HF3
  obtain ⟨v, hB, hR⟩ := HV4.out
  have hbx := hB.cell 3
  simp only [List.getElem?_cons_zero, List.getElem?_cons_succ, MdV.v4] at hbx
  have hbf := hB.frozen 3
  have hmbl := hB.lt
  have HRR := Lib.hid hR
  have HBB := Lib.hid hB
  have hsz := HF4.out.size
  have hrl : ∀ g, (Value.slice v.A4 m.mods.length v.c4).ownBlock = some g → g < u4.heap.size := hR.r4.ltb
  have hrt : ∀ g, (Value.slice v.A4 m.mods.length v.c4).ownBlock = some g → g ≠ mb := fun g hg e => by
    obtain ⟨_, cur, h1⟩ := hR.r4.ownb g hg
    exact absurd (blk_typ h1 (e ▸ hB)) (by decide)
  have HRL := Lib.hid hrl
  have HRT := Lib.hid hrt
  obtain ⟨N, hN⟩ : ∃ N, N = m.mods.length := ⟨_, rfl⟩
  have HNN := Lib.hid hN
  rw [← hN] at hbx
  have HSK := Lib.hid (mskips_any u4.drew HM4.out.drew ⟨#[109, 111, 100, 117, 108, 101]⟩)
  clear hB hR hrl hrt hN
  go_wp2_with fail
  go_region_law (first
    | (go_simp
       go_at_call 79
       (with_reducible refine (HSK.out).mono ?_)
       rintro e w5 ⟨p, q, rfl, hcap, hp1, hq1, hp2, hq2, hb5⟩
       have hb5' : Below u4.heap.size u4 w5 := (Below.refl u4.heap.size u4).drew.trans hb5
       have hbx5 : w5.cell? ⟨mb, 3, none⟩ = some (.slice v.A4 N v.c4) := (hb5'.cell (p := ⟨mb, 3, none⟩) hmbl).trans hbx
       have hbf5 : w5.frozen? ⟨mb, 3, none⟩ = false := (hb5'.frozen (p := ⟨mb, 3, none⟩) hmbl).trans hbf
       have hmb5 : mb < w5.heap.size := Nat.lt_of_lt_of_le hmbl hb5'.size
       have HB5 := Lib.hid hb5'
       have HCA := Lib.hid hcap
       have hs5 := hb5'.size
       clear hb5 hb5' hcap)
    | (go_simp
       go_at_call 82
       rw [HNN.out]
       refine (lmod_any (b1 := w0.heap.size) (row0 := (Value.slice v.A4 m.mods.length v.c4).ownBlock) (l0 := m.mods) w5 (HM4.out.below HB5.out) _ HCA.out ?k1 hbb ?k2 ⟨hx, hrb⟩ ?k3 rfl hlen).mono ?_
       case k1 => exact ⟨fun e => absurd (HRL.out p e) (by have : u4.drew.heap.size ≤ p := hp1; have e2 : u4.drew.heap.size = u4.heap.size := rfl; omega), fun e => absurd (HRL.out q e) (by have : u4.drew.heap.size ≤ q := hq1; have e2 : u4.drew.heap.size = u4.heap.size := rfl; omega)⟩
       case k2 => omega
       case k3 => exact (HRR.out.keep (Kt.below HB5.out)).r4
       rintro e w6 ⟨A, cap, rfl, hR6, hM6, hF6, hat6⟩
       have hF6' : Fx (X3 xb rb (v.v4 m).ownBlock) w5 w6 := hF6
       have hB6 := (HBB.out.below HB5.out).fx hF6' (fun hx3 => by
         rcases hx3 with e | e | e
         · omega
         · omega
         · exact HRT.out mb e rfl)
       have hbx6 := hB6.cell 3
       have hbf6 := hB6.frozen 3
       have hmb6 := hB6.lt
       have HB6 := Lib.hid hB6
       have HR6 := Lib.hid ((HRR.out.keep (Kt.below HB5.out)).put4 hx hrb hF6' hR6)
       have HM6 := Lib.hid hM6
       have HF6 := Lib.hid ((HF4.out.on HB5.out).row hF6' (fun g hg => (HRR.out.r4.ownb g hg).1))
       simp only [List.getElem?_cons_zero, List.getElem?_cons_succ, MdV.v4] at hbx6
       clear hB6 hR6 hM6 hF6 hF6' hat6))
  all_goals go_wp2
  all_goals go_end0
  all_goals refine ⟨rfl, HM6.out.set HB6.out (by unfold RdT; decide) (by omega) _, ⟨{ v with A4 := A, c4 := cap }, ?_, HR6.out.keepM (Kt.mdl HB6.out)⟩, HF6.out.setCell (p := ⟨mb, 3, none⟩) (.inl hmb) _⟩
  all_goals rw [← List.length_append]
  all_goals exact HB6.out.set 3 _
set_option maxHeartbeats 2000000 in
theorem mitems_no {mb : Nat} {m : MdlO} (w0 w : World) (h : MRd w xb rb b D st) (hm : MdM w w0.heap.size mb m) (hmb : w0.heap.size ≤ mb) (hx : xb < w0.heap.size) (hrb : rb < w0.heap.size) (hF : Fx (X2 xb rb) w0 w) (h0 : isT st.hd wConst = false) (h1 : isT st.hd wFormula = false) (h2 : isT st.hd wLabel = false) (h3 : isT st.hd wModule = false) :
    Calls Tryz.prog 46 #[.pointer (some ⟨xb, 0, none⟩), .pointer (some ⟨mb, 0, none⟩)] w (ItP xb rb b D mb w0 (m, st.fail 20)) := by
  have HI0 := Lib.hid (fun (W : World) (hW : MRd W xb rb b D st) => hW.is_ ⟨#[99, 111, 110, 115, 116]⟩)
  rw [show isT st.hd (⟨#[99, 111, 110, 115, 116]⟩ : ByteArray).data.toList = false from h0] at HI0
  have HI1 := Lib.hid (fun (W : World) (hW : MRd W xb rb b D st) => hW.is_ ⟨#[102, 111, 114, 109, 117, 108, 97]⟩)
  rw [show isT st.hd (⟨#[102, 111, 114, 109, 117, 108, 97]⟩ : ByteArray).data.toList = false from h1] at HI1
  have HI2 := Lib.hid (fun (W : World) (hW : MRd W xb rb b D st) => hW.is_ ⟨#[108, 97, 98, 101, 108]⟩)
  rw [show isT st.hd (⟨#[108, 97, 98, 101, 108]⟩ : ByteArray).data.toList = false from h2] at HI2
  have HI3 := Lib.hid (fun (W : World) (hW : MRd W xb rb b D st) => hW.is_ ⟨#[109, 111, 100, 117, 108, 101]⟩)
  rw [show isT st.hd (⟨#[109, 111, 100, 117, 108, 101]⟩ : ByteArray).data.toList = false from h3] at HI3
  have HM0 := Lib.hid h
  have HV0 := Lib.hid hm
  have HF0 := Lib.hid hF
  have c0 := h.c0
  have hx0 := h.ltx
  clear h hm hF h0 h1 h2 h3
  go_enter Tryz.func46, Tryz.ntmps46
  go_wp2_with fail
  refine (HI0.out _ HM0.out).mono ?_
  rintro e u1 ⟨rfl, hb0⟩
  have HM1 := Lib.hid (HM0.out.below hb0)
  have HV1 := Lib.hid (HV0.out.below hb0)
  have HF1 := Lib.hid (HF0.out.on hb0)
  have c0 := HM1.out.c0
  have hx0 := HM1.out.ltx
  clear hb0 HM0 HV0 HF0
  go_wp2_with fail
  refine (HI1.out _ HM1.out).mono ?_
  rintro e u2 ⟨rfl, hb1⟩
  have HM2 := Lib.hid (HM1.out.below hb1)
  have HV2 := Lib.hid (HV1.out.below hb1)
  have HF2 := Lib.hid (HF1.out.on hb1)
  have c0 := HM2.out.c0
  have hx0 := HM2.out.ltx
  clear hb1 HM1 HV1 HF1
  go_wp2_with fail
  refine (HI2.out _ HM2.out).mono ?_
  rintro e u3 ⟨rfl, hb2⟩
  have HM3 := Lib.hid (HM2.out.below hb2)
  have HV3 := Lib.hid (HV2.out.below hb2)
  have HF3 := Lib.hid (HF2.out.on hb2)
  have c0 := HM3.out.c0
  have hx0 := HM3.out.ltx
  clear hb2 HM2 HV2 HF2
  go_wp2_with fail
  refine (HI3.out _ HM3.out).mono ?_
  rintro e u4 ⟨rfl, hb3⟩
  have HM4 := Lib.hid (HM3.out.below hb3)
  have HV4 := Lib.hid (HV3.out.below hb3)
  have HF4 := Lib.hid (HF3.out.on hb3)
  have c0 := HM4.out.c0
  have hx0 := HM4.out.ltx
  clear hb3 HM3 HV3 HF3
  go_wp2_with fail
  refine (mrefuse_any u4 HM4.out).mono ?_
  rintro e w5 ⟨rfl, hM5, hF5⟩
  have HV5 := Lib.hid (show MdM w5 w0.heap.size mb m by
    obtain ⟨v, hB, hR⟩ := HV4.out
    exact ⟨v, hB.fx hF5 (fun hx2 => by have := x2_lt hx2 hx hrb; omega), hR.keep (Kt.fx hF5 (fun k hk => x2_lt hk hx hrb))⟩)
  have HF5 := Lib.hid (HF4.out.trans hF5)
  have HM5 := Lib.hid hM5
  clear hM5 hF5
  go_wp2
  go_end0
  exact ⟨rfl, HM5.out, HV5.out, HF5.out⟩
theorem mitems_any {mb : Nat} {m : MdlO} (w0 w : World) (h : MRd w xb rb b D st) (hm : MdM w w0.heap.size mb m) (hmb : w0.heap.size ≤ mb) (hbb : b ≤ w0.heap.size) (hx : xb < w0.heap.size) (hrb : rb < w0.heap.size) (hF : Fx (X2 xb rb) w0 w) (hlen : m.consts.length + m.formulas.length + m.labels.length + m.mods.length + st.len ≤ 200000) :
    Calls Tryz.prog 46 #[.pointer (some ⟨xb, 0, none⟩), .pointer (some ⟨mb, 0, none⟩)] w (ItP xb rb b D mb w0 (st.items D m)) := by
  unfold St.items
  split
  · next h0 => exact mitems_0 w0 w h hm hmb hbb hx hrb hF (by omega) h0
  · next h0 =>
    have h0 : isT st.hd wConst = false := by simpa using h0
    split
    · next h1 => exact mitems_1 w0 w h hm hmb hbb hx hrb hF (by omega) h0 h1
    · next h1 =>
      have h1 : isT st.hd wFormula = false := by simpa using h1
      split
      · next h2 => exact mitems_2 w0 w h hm hmb hbb hx hrb hF (by omega) h0 h1 h2
      · next h2 =>
        have h2 : isT st.hd wLabel = false := by simpa using h2
        split
        · next h3 => exact mitems_3 w0 w h hm hmb hbb hx hrb hF (by omega) h0 h1 h2 h3
        · next h3 => exact mitems_no w0 w h hm hmb hx hrb hF h0 h1 h2 (by simpa using h3)
end
end
section
open Go.RowKit

theorem listF_len {α : Type} {p : Tok → Bool} {rd : St → α × St} (hd : Dec p rd) : ∀ (f : Nat) (st : St), (listF p rd f st).1.length + (listF p rd f st).2.len ≤ st.len
  | 0, st => by simp [listF]
  | f + 1, st => by
    simp only [listF]
    split
    · next hp =>
      have h1 := (hd st hp).1
      have h2 := listF_len hd f (rd st).2
      simp only [List.length_cons]
      omega
    · simp
theorem list_len {α : Type} {p : Tok → Bool} {rd : St → α × St} (hd : Dec p rd) (st : St) : (st.list p rd).1.length + (st.list p rd).2.len ≤ st.len := listF_len hd _ st
def MdlO.cnt (m : MdlO) : Nat := m.consts.length + m.formulas.length + m.labels.length + m.mods.length
theorem items_cnt (D : Nat) (m : MdlO) (st : St) : (st.items D m).1.cnt + (st.items D m).2.len ≤ m.cnt + st.len := by
  unfold St.items
  split
  · have := list_len (dec_defn D wConst) st
    simp only [MdlO.cnt, List.length_append, constsL]
    omega
  · split
    · have := list_len (dec_defn D wFormula) st
      simp only [MdlO.cnt, List.length_append, formsL]
      omega
    · split
      · have := list_len (dec_labl D wLabel) st
        simp only [MdlO.cnt, List.length_append, lablsL]
        omega
      · split
        · have := list_len (dec_modl D wModule) st
          simp only [MdlO.cnt, List.length_append, modsL]
          omega
        · have := (fail_le (c := 20) st).1
          simp only
          omega
section
variable {xb rb b D : Nat} {st : St}
/-- What model tells. -/
def MoP (xb rb b D : Nat) (r : MdlO × St) (w : World) (e : Ending) (w' : World) : Prop :=
  ∃ v : MdV, e = .returned (.agg #[v.v1 r.1, v.v2 r.1, v.v3 r.1, v.v4 r.1]) ∧ MdR w' (w.heap.size + 1) r.1 v ∧ MRd w' xb rb b D r.2 ∧ Fx (X2 xb rb) w w'
structure MoR (xb rb b D : Nat) (tot : MdlO × St) (w0 : World) (m1 : MdlO) (st1 : St) (wr : World) : Prop where
  mr : MRd wr xb rb b D st1
  md : MdM wr w0.heap.size w0.heap.size m1
  tot : st1.mdlOn D m1 = tot
  fx : Fx (X2 xb rb) w0 wr
  len : m1.cnt + st1.len ≤ 65537
def MoRel (xb rb b D : Nat) (tot : MdlO × St) (w0 : World) (gk : Nat) (wr : World) : Prop := ∃ m1 st1, gk = st1.len ∧ MoR xb rb b D tot w0 m1 st1 wr
theorem md0 (w : World) (b1 mb : Nat) (h : Bx w mb 26 [.slice none 0 0, .slice none 0 0, .slice none 0 0, .slice none 0 0]) : MdM w b1 mb mdl0 :=
  ⟨⟨none, 0, none, 0, none, 0, none, 0⟩, h, Row.nil _ _ _ _ _, Row.nil _ _ _ _ _, Row.nil _ _ _ _ _, Row.nil _ _ _ _ _, (fun _ h => by cases h), (fun _ h => by cases h), (fun _ h => by cases h)⟩
set_option maxHeartbeats 4000000 in
theorem mmodel_any (w : World) (h : MRd w xb rb b D st) : Calls Tryz.prog 16 #[.pointer (some ⟨xb, 0, none⟩)] w (MoP xb rb b D (st.mdl D) w) := by
  have hx := h.ltx
  have hrb := h.hr
  have HN := Lib.hid h.nx
  have hbl := h.ble
  have H := Lib.hid h
  clear h
  have hf0 := field0
  have hf1 := field1
  have hf2 := field2
  obtain ⟨tot, htot⟩ : ∃ tot, tot = st.mdl D := ⟨_, rfl⟩
  rw [← htot]
  have HTT := Lib.hid htot
  clear htot
  obtain ⟨w0, hw0⟩ : ∃ w0, w0 = w.alloc (.cells #[.slice none 0 0, .slice none 0 0, .slice none 0 0, .slice none 0 0] 26) := ⟨_, rfl⟩
  have hs0 : w0.heap.size = w.heap.size + 1 := by rw [hw0]; simp
  have HB0 := Lib.hid (show Bx w0 w.heap.size 26 [.slice none 0 0, .slice none 0 0, .slice none 0 0, .slice none 0 0] by rw [hw0]; exact Bx.new _ _ _)
  have HF00 := Lib.hid (show Fx (X2 xb rb) w w0 by rw [hw0]; exact (Fx.refl _ _).alloc _)
  have HM00 := Lib.hid (show MRd w0 xb rb b D st by rw [hw0]; exact H.out.alloc _)
  go_enter Tryz.func16, Tryz.ntmps16
  go_wp2_with fail
  refine calls_gen (P := fun W => MRd W xb rb b D st ∧ Bx W (w.heap.size + 1) 26 [.slice none 0 0, .slice none 0 0, .slice none 0 0, .slice none 0 0] ∧ Fx (X2 xb rb) w0 W) ⟨?_, ?_, ?_⟩ ?_
  · exact (H.out.alloc _).alloc _
  · exact Bx.newAt (by simp) _ _
  · rw [hw0]; exact (Fx.refl _ _).alloc _
  rintro W ⟨hM, hB, hF⟩
  refine (mwant_any W hM _).mono ?_
  rintro e w1 ⟨rfl, hM1, hF1⟩
  have HR := Lib.hid (show MoRel xb rb b D tot w0 (st.want wMdp).len w1 from ⟨mdl0, st.want wMdp, rfl, hM1, md0 _ _ _ (by rw [hs0]; exact hB.fx hF1 (HN.out _ (by omega))), HTT.out.symm, hF.trans hF1, by have h1 : (st.want wMdp).len ≤ 65537 := MRd.len hM1; simpa [MdlO.cnt, mdl0] using h1⟩)
  clear hM hB hF hM1 hF1 H HM00
  clear hw0
  go_wp2
  go_loopg [] (st.want wMdp).len (fun gk wr => MoRel xb rb b D tot w0 gk wr)
  case atStart => exact HR.out
  case round =>
    clear HR
    obtain ⟨m1, st1, rfl, hR⟩ := hrel
    have HR := Lib.hid hR
    have HP := Lib.hid hR.mr.peek
    have c0 := hR.mr.c0
    have hx0 := hR.mr.ltx
    clear hR
    by_cases hk : st1.hd.kind = 0
    · have g1 : (((st1.hd.kind : Nat) : Int) != 0) = false := by rw [hk]; rfl
      have HT := Lib.hid (show (m1, st1) = tot by rw [← HR.out.tot, mdl_end D hk])
      clear hk
      go_wp2_with fail
      with_reducible refine (HP.out).mono ?_
      rintro e w3 ⟨rfl, hb3⟩
      obtain ⟨v, hB, hMd⟩ := HR.out.md.below hb3
      have hC := HB0.out.fx (HR.out.fx.on hb3) (HN.out _ (Nat.le_refl _))
      have HMd := Lib.hid hMd
      have HM3 := Lib.hid (HR.out.mr.below hb3)
      have HF3 := Lib.hid (HF00.out.trans (HR.out.fx.on hb3))
      rw [hs0] at hB
      have a0 := hB.cell 0
      have a1 := hB.cell 1
      have a2 := hB.cell 2
      have a3 := hB.cell 3
      simp only [List.getElem?_cons_zero, List.getElem?_cons_succ] at a0 a1 a2 a3
      have d0 := hC.cell 0
      have d1 := hC.cell 1
      have d2 := hC.cell 2
      have d3 := hC.cell 3
      simp only [List.getElem?_cons_zero, List.getElem?_cons_succ] at d0 d1 d2 d3
      have y0 := hC.frozen 0
      have y1 := hC.frozen 1
      have y2 := hC.frozen 2
      have y3 := hC.frozen 3
      simp only [MdV.v1, MdV.v2, MdV.v3, MdV.v4] at a0 a1 a2 a3
      have hl1 := hB.lt
      have hl2 := hC.lt
      have HC := Lib.hid hC
      clear hb3 hB hC hMd
      go_wp2
      have hBf := HC.out.setL (i := 0) (us := [v.v1 m1, v.v2 m1, v.v3 m1, v.v4 m1])
      simp only [setL, setLs, List.set_cons_zero, List.set_cons_succ] at hBf
      simp only [MdV.v1, MdV.v2, MdV.v3, MdV.v4] at hBf
      rw [← HT.out]
      refine bodyPost_ret (v := .agg #[v.v1 m1, v.v2 m1, v.v3 m1, v.v4 m1]) (by simp [results, Tryz.results16, go_sem, hBf.cell, MdV.v1, MdV.v2, MdV.v3, MdV.v4]) rfl ⟨v, rfl, ?_, ?_, ?_⟩
      · have hk : Kt (w.heap.size + 1) E0 w3 (setL w3 w.heap.size 0 [v.v1 m1, v.v2 m1, v.v3 m1, v.v4 m1]) := Kt.setL (by omega)
        have hr := HMd.out
        rw [hs0] at hr
        exact hr.keep hk
      · exact MRd.setL (i := 0) (us := [v.v1 m1, v.v2 m1, v.v3 m1, v.v4 m1]) (by unfold RdT; decide) (by omega) HM3.out HC.out
      · exact Fx.setL (i := 0) (us := [v.v1 m1, v.v2 m1, v.v3 m1, v.v4 m1]) (.inl (Nat.le_refl _)) HF3.out
    · have g1 : (((st1.hd.kind : Nat) : Int) != 0) = true := by rw [bne_iff_ne]; omega
      have HT := Lib.hid (show (st1.items D m1).2.mdlOn D (st1.items D m1).1 = tot by rw [← HR.out.tot, mdl_go D hk])
      have HLT := Lib.hid ((items_le D m1 hk).2)
      have HCN := Lib.hid (items_cnt D m1 st1)
      clear hk
      go_wp2_with fail
      with_reducible refine (HP.out).mono ?_
      rintro e w3 ⟨rfl, hb3⟩
      have HM3 := Lib.hid (HR.out.mr.below hb3)
      have HMd := Lib.hid (HR.out.md.below hb3)
      have HF3 := Lib.hid (HR.out.fx.on hb3)
      have HL := Lib.hid HR.out.len
      clear hb3
      go_wp2_with fail
      rw [← hs0]
      refine (mitems_any w0 w3 HM3.out HMd.out (Nat.le_refl _) (by omega) (by omega) (by omega) HF3.out (by have := HL.out; unfold MdlO.cnt at this; omega)).mono ?_
      rintro e w4 ⟨rfl, hM4, hMd4, hF4⟩
      have HR4 := Lib.hid (show MoRel xb rb b D tot w0 (st1.items D m1).2.len w4 from ⟨_, _, rfl, hM4, hMd4, HT.out, hF4, by have := HL.out; have := HCN.out; omega⟩)
      clear hM4 hMd4 hF4
      go_wp2
      go_roundg (st1.items D m1).2.len
      case measure => exact HLT.out
      case rel => exact HR4.out
end
end
section
open Go.RowKit

/-- What Parse tells of a model. -/
def MQ (res : MP) (w : World) (e : Ending) (w' : World) : Prop :=
  match res with
  | .ok m => ∃ v : MdV, e = .returned (.tuple #[.agg #[v.v1 m, v.v2 m, v.v3 m, v.v4 m], .nilIface]) ∧ MdR w' w.heap.size m v ∧ Below w.heap.size w w'
  | .er c q => ∃ eb, e = .returned (.tuple #[.agg #[.slice none 0 0, .slice none 0 0, .slice none 0 0, .slice none 0 0], .iface 101 (.pointer (some ⟨eb, 0, none⟩))]) ∧ AtE w' eb q c ∧ Below w.heap.size w w'
theorem mparse_bad (s : ByteArray) (n : Int) (w : World) (hn : n < 1 ∨ 64 < n) : Calls Tryz.prog 7 #[.string s, .int .i64 n] w fun e w' => e = .returned (.tuple #[.agg #[.slice none 0 0, .slice none 0 0, .slice none 0 0, .slice none 0 0], .iface 61 (.int .i64 1)]) ∧ Below w.heap.size w w' := by
  rcases hn with hn | hn
  · have g1 : decide (n < 1) = true := by simp; omega
    clear hn
    go_enter Tryz.func7, Tryz.ntmps7
    go_wp2
    exact bodyPost_ret (v := .tuple #[.agg #[.slice none 0 0, .slice none 0 0, .slice none 0 0, .slice none 0 0], .iface 61 (.int .i64 1)]) (by simp [results, Tryz.results7, go_sem]) rfl ⟨rfl, (Below.refl _ _).alloc (Nat.le_refl _) _⟩
  · have g1 : decide (n < 1) = false := by simp; omega
    have g2 : decide (64 < n) = true := by simp; omega
    clear hn
    go_enter Tryz.func7, Tryz.ntmps7
    go_wp2
    exact bodyPost_ret (v := .tuple #[.agg #[.slice none 0 0, .slice none 0 0, .slice none 0 0, .slice none 0 0], .iface 61 (.int .i64 1)]) (by simp [results, Tryz.results7, go_sem]) rfl ⟨rfl, (Below.refl _ _).alloc (Nat.le_refl _) _⟩
theorem MdR.mono {w : World} {b b1 : Nat} {m : MdlO} {v : MdV} (h : MdR w b1 m v) (hb : b ≤ b1) : MdR w b m v :=
  ⟨h.r1.mono hb (fun _ _ h => h.mono hb), h.r2.mono hb (fun _ _ h => h.mono hb), h.r3.mono hb (fun _ _ h => h.mono hb), h.r4.mono hb (fun _ _ h => h.mono hb), h.d12, h.d13, h.d23⟩
theorem Fx.belowOf {xb rb : Nat} {a w w' : World} (hf : Fx (X2 xb rb) w w') (h : Below a.heap.size a w) (h1 : a.heap.size ≤ xb) (h2 : a.heap.size ≤ rb) : Below a.heap.size a w' :=
  ⟨hf.os.trans h.os, hf.tape.trans h.tape, hf.output.trans h.output, Nat.le_trans h.size hf.size, fun k hk => (hf.block k (Nat.lt_of_lt_of_le hk h.size) (fun hx => by rcases hx with e | e <;> omega)).trans (h.block k hk)⟩
theorem AtE.farL {q' i : Nat} {us : List Value} {w : World} {eb : Nat} {p n : Int} (h : AtE w eb p n) (hne : eb ≠ q') : AtE (setL w q' i us) eb p n := h.keep (setL_heap hne us w i)
set_option maxHeartbeats 4000000 in
theorem mparse_any {s : ByteArray} {D : Nat} (w : World) (hG : GlobS w) (hs : s.size ≤ 65536) (h1 : 1 ≤ D) (h64 : D ≤ 64) : Calls Tryz.prog 7 #[.string s, .int .i64 (D : Int)] w (MQ (parseM D s.data.toList) w) := by
  have g1 : decide ((D : Int) < 1) = false := by simp; omega
  have g1' : decide (D < 1) = false := by simp; omega
  have g2 : decide (64 < (D : Int)) = false := by simp; omega
  have g2' : decide (64 < D) = false := by simp; omega
  have hlo : 3 < w.heap.size ∧ 0 < w.heap.size := by
    have h0 := World.block_lt_of_cell? w _ hG.glob.err
    obtain ⟨te, pe, he⟩ := hG.rng
    have h2 := World.block_lt_of_cell? w _ he
    exact ⟨h2, h0⟩
  have HG := Lib.hid hG
  clear hG
  go_enter Tryz.func7, Tryz.ntmps7
  go_wp2_with fail
  refine calls_gen (P := fun W => Bx W w.heap.size 26 [.slice none 0 0, .slice none 0 0, .slice none 0 0, .slice none 0 0] ∧ Below w.heap.size w W) ⟨Bx.new _ _ _, (Below.refl _ _).alloc (Nat.le_refl _) _⟩ ?_
  rintro W ⟨hB, hF⟩
  have hl0 := hB.lt
  cases htk : toks s.data.toList with
  | error x =>
    obtain ⟨x, q⟩ := x
    refine (new_erX W (HG.out.below hF) hs htk).mono ?_
    rintro e w1 ⟨eb, rfl, hbb, _, hA, hb⟩
    have hB1 := hB.below hb
    have HR := Lib.hid (show parseM D s.data.toList = .er x q by unfold parseM; rw [htk])
    have HA := Lib.hid hA
    have HF1 := Lib.hid (hF.trans (hb.mono hF.size))
    have a0 := hB1.cell 0
    have a1 := hB1.cell 1
    have a2 := hB1.cell 2
    have a3 := hB1.cell 3
    simp only [List.getElem?_cons_zero, List.getElem?_cons_succ] at a0 a1 a2 a3
    have y0 := hB1.frozen 0
    have y1 := hB1.frozen 1
    have y2 := hB1.frozen 2
    have y3 := hB1.frozen 3
    have hl1 := hB1.lt
    have HB1 := Lib.hid hB1
    clear hB hF hA hb hB1 htk
    go_wp2
    have hBf := HB1.out.setL (i := 0) (us := [.slice none 0 0, .slice none 0 0, .slice none 0 0, .slice none 0 0])
    simp only [setL, setLs, List.set_cons_zero, List.set_cons_succ] at hBf
    rw [HR.out]
    refine bodyPost_ret (v := .tuple #[.agg #[.slice none 0 0, .slice none 0 0, .slice none 0 0, .slice none 0 0], .iface 101 (.pointer (some ⟨eb, 0, none⟩))]) (by simp [results, Tryz.results7, go_sem, hBf.cell]) rfl ⟨eb, rfl, ?_, ?_⟩
    · exact AtE.farL (i := 0) (us := [.slice none 0 0, .slice none 0 0, .slice none 0 0, .slice none 0 0]) HA.out (by omega)
    · exact (Fx.setL (X := fun _ => False) (q := w.heap.size) (i := 0) (us := [.slice none 0 0, .slice none 0 0, .slice none 0 0, .slice none 0 0]) (.inl (Nat.le_refl _)) (Fx.of HF1.out)).below (fun _ h => h.elim)
  | ok ts =>
    refine (new_tr W (HG.out.below hF) hs htk).mono ?_
    rintro e w1 ⟨rb, rfl, hrb, hT, hb⟩
    have HB1 := Lib.hid (hB.below hb)
    have HT1 := Lib.hid hT
    have HF1 := Lib.hid (hF.trans (hb.mono hF.size))
    have HP := Lib.hid (show parseM D s.data.toList = endM (St.mdl D (.good ts)) by unfold parseM; rw [htk])
    have hs1 := HB1.out.lt
    clear hB hT hF hb htk
    go_wp2_with fail
    refine calls_gen (P := fun W2 => MRd W2 w1.heap.size rb w.heap.size D (.good ts) ∧ Bx W2 w.heap.size 26 [.slice none 0 0, .slice none 0 0, .slice none 0 0, .slice none 0 0] ∧ Below w.heap.size w W2) ⟨?_, HB1.out.alloc _, HF1.out.alloc HF1.out.size _⟩ ?_
    · have hba : Below w1.heap.size w1 (w1.alloc (.cells #[.pointer (some ⟨rb, 0, none⟩), .int .i64 (D : Int), .nilIface] 67)) := (Below.refl _ _).alloc (Nat.le_refl _) _
      exact ⟨⟨.nilIface, Bx.new _ _ _, rfl⟩, HT1.out.below hba, HT1.out.glob.below hba, h1, h64, hlo, ⟨by omega, by omega⟩, by have := HT1.out.ltr; simp; omega⟩
    have hrl := HT1.out.ltr
    rintro W2 ⟨hM, hB, hF⟩
    have hlW := hM.ltx
    refine (mmodel_any W2 hM).mono ?_
    rintro e w3 ⟨v, rfl, hR, hM3, hF3⟩
    obtain ⟨m, st3, hres⟩ : ∃ m st3, St.mdl D (.good ts) = (m, st3) := ⟨_, _, rfl⟩
    rw [hres] at hR hM3 HP ⊢
    have hB3 := hB.fx hF3 (fun hx2 => by rcases hx2 with e | e <;> omega)
    have hbl3 : Below w.heap.size w w3 := hF3.belowOf hF (by omega) (by omega)
    obtain ⟨ev, c0, c1, c2, _, _, hev⟩ := hM3.cells
    have hx3 := hM3.ltx
    have HRR := Lib.hid (show MdR w3 (W2.heap.size + 1) m v from hR)
    have HM3 := Lib.hid hM3
    have HBL := Lib.hid hbl3
    have hW2 : w.heap.size ≤ W2.heap.size := hF.size
    have hs3 : W2.heap.size ≤ w3.heap.size := hF3.size
    have hne : w.heap.size ≠ w3.heap.size := by omega
    have hxne : w1.heap.size ≠ w.heap.size := by omega
    have a0 := hB3.cell 0
    have a1 := hB3.cell 1
    have a2 := hB3.cell 2
    have a3 := hB3.cell 3
    simp only [List.getElem?_cons_zero, List.getElem?_cons_succ] at a0 a1 a2 a3
    have y0 := hB3.frozen 0
    have y1 := hB3.frozen 1
    have y2 := hB3.frozen 2
    have y3 := hB3.frozen 3
    have hl3 := hB3.lt
    have HB3 := Lib.hid hB3
    clear hM hB hF hR hM3 hF3 hB3 hbl3 hres HB1 HT1 HF1
    cases st3 with
    | good us =>
      obtain rfl : ev = .nilIface := hev
      dsimp only [MdV.v1, MdV.v2, MdV.v3, MdV.v4]
      go_wp2
      have hBf := (HB3.out.setL (i := 0) (us := [v.v1 m, v.v2 m, v.v3 m, v.v4 m])).alloc (.cells #[v.v1 m, v.v2 m, v.v3 m, v.v4 m] 26)
      simp only [setL, setLs, List.set_cons_zero, List.set_cons_succ] at hBf
      simp only [MdV.v1, MdV.v2, MdV.v3, MdV.v4] at hBf
      rw [HP.out]
      have hk : Kt (W2.heap.size + 1) E0 w3 (setL w3 w.heap.size 0 [v.v1 m, v.v2 m, v.v3 m, v.v4 m]) := Kt.setL (by omega)
      refine bodyPost_ret (v := .tuple #[.agg #[v.v1 m, v.v2 m, v.v3 m, v.v4 m], .nilIface]) (by simp [results, Tryz.results7, go_sem, hBf.cell, MdV.v1, MdV.v2, MdV.v3, MdV.v4]) rfl ⟨v, rfl, ?_, ?_⟩
      · exact ((HRR.out.keep hk).mono (by omega)).keep (Kt.below ((Below.refl _ _).alloc (Nat.le_refl _) _))
      · exact (Fx.alloc (Fx.setL (X := fun _ => False) (q := w.heap.size) (i := 0) (us := [v.v1 m, v.v2 m, v.v3 m, v.v4 m]) (.inl (Nat.le_refl _)) (Fx.of HBL.out)) _).below (fun _ h => h.elim)
    | bad c p =>
      obtain ⟨eb, rfl, hA⟩ := hev
      have HA := Lib.hid hA
      clear hA
      dsimp only [MdV.v1, MdV.v2, MdV.v3, MdV.v4]
      go_wp2_with fail
      go_region
      go_wp2
      rw [HP.out]
      have hBf := (HB3.out.setL (i := 0) (us := [.slice none 0 0, .slice none 0 0, .slice none 0 0, .slice none 0 0])).alloc (.cells #[v.v1 m, v.v2 m, v.v3 m, v.v4 m] 26)
      simp only [setL, setLs, List.set_cons_zero, List.set_cons_succ] at hBf
      simp only [MdV.v1, MdV.v2, MdV.v3, MdV.v4] at hBf
      have hne2 : eb ≠ w.heap.size := by
        intro e
        obtain ⟨cs, h1⟩ := HA.out.typ
        exact absurd (blk_typ (e ▸ h1) HB3.out) (by decide)
      refine bodyPost_ret (v := .tuple #[.agg #[.slice none 0 0, .slice none 0 0, .slice none 0 0, .slice none 0 0], .iface 101 (.pointer (some ⟨eb, 0, none⟩))]) (by simp [results, Tryz.results7, go_sem, hBf.cell]) rfl ⟨eb, rfl, ?_, ?_⟩
      · exact ((AtE.farL (i := 0) (us := [.slice none 0 0, .slice none 0 0, .slice none 0 0, .slice none 0 0]) HA.out hne2).alloc _).below (Below.refl _ _).drew
      · exact ((Fx.alloc (Fx.setL (X := fun _ => False) (q := w.heap.size) (i := 0) (us := [.slice none 0 0, .slice none 0 0, .slice none 0 0, .slice none 0 0]) (.inl (Nat.le_refl _)) (Fx.of HBL.out)) _).drew).below (fun _ h => h.elim)
end
section
open Go.RowKit Go.Sort

def chkM : MP → Bool
  | .ok ⟨_, _, _, [⟨_, _, [⟨_, _, b :: _, _⟩], _⟩]⟩ => b.wt == 1
  | _ => false
def chkE (n : Nat) : MP → Bool
  | .er c _ => c == n
  | _ => false
theorem chk_ex1 : chkM (parseM 9 [109, 100, 112, 32, 109, 111, 100, 117, 108, 101, 32, 109, 32, 120, 32, 58, 32, 91, 48, 46, 46, 49, 93, 59, 32, 91, 93, 32, 120, 32, 61, 32, 48, 32, 45, 62, 32, 40, 120, 39, 32, 61, 32, 49, 41, 59, 32, 101, 110, 100, 109, 111, 100, 117, 108, 101]) = true := by decide +kernel
theorem chk_ex2 : chkE 20 (parseM 9 [109, 100, 112, 32, 109, 111, 100, 117, 108, 101]) = true := by decide +kernel
theorem chkM_ok {r : MP} (h : chkM r = true) : ∃ cs fs ls nm vs act gd bs br ps p q, r = .ok ⟨cs, fs, ls, [⟨nm, vs, [⟨act, gd, ⟨1, bs, br⟩ :: ps, p⟩], q⟩]⟩ := by
  match r, h with
  | .ok ⟨cs, fs, ls, [⟨nm, vs, [⟨act, gd, b :: ps, p⟩], q⟩]⟩, h =>
    obtain ⟨wt, bs, br⟩ := b
    have hw : wt = 1 := by simpa [chkM] using h
    subst hw
    exact ⟨cs, fs, ls, nm, vs, act, gd, bs, br, ps, p, q, rfl⟩
theorem chkE_er {n : Nat} {r : MP} (h : chkE n r = true) : ∃ p, r = .er n p := by
  match r, h with
  | .er c p, h =>
    have hc : c = n := by simpa [chkE] using h
    subst hc
    exact ⟨p, rfl⟩
/-- The first part of a list in memory. -/
theorem Row.first {α : Type} {w : World} {b : Nat} {t : TypeId} {sz : Nat} {P : α → List Value → Prop} {a : α} {xs : List α} {v : Value} (h : Row w b t sz P (a :: xs) v) : ∃ g cap c, v = .slice (some ⟨g, 0, none⟩) (xs.length + 1) cap ∧ g < w.heap.size ∧ P a c ∧ ∀ (j : Nat) (u : Value), c[j]? = some u → w.cell? ⟨g, j, none⟩ = some u := by
  obtain ⟨cs, h1, c, r, hc, ha, _⟩ := h
  obtain ⟨g, cap, rfl⟩ := row_form h1 (by simp)
  refine ⟨g, cap, c, rfl, (h1.lt g rfl).2, ha, fun j u hj => ?_⟩
  have h2 := h1.cells (g := g) rfl j u (by
    rw [hc]
    have hl : j < c.length := by
      rcases Nat.lt_or_ge j c.length with hl | hl
      · exact hl
      · rw [List.getElem?_eq_none hl] at hj; cases hj
    rw [List.getElem?_append_left hl]; exact hj)
  have e : (⟨g, 0, none⟩ : Addr).add j = ⟨g, j, none⟩ := by
    unfold Addr.add
    by_cases h0 : j = 0 <;> simp [h0]
  rw [e] at h2
  exact h2
set_option maxHeartbeats 2000000 in
set_option maxRecDepth 100000 in
theorem malive_yes (w : World) (hG : GlobT w) : Calls Tryz.prog 6 #[] w (LawF w) := by
  obtain ⟨cs, fs, ls, nm, vs, act, gd, bs, br, ps, p, q, hp1⟩ := chkM_ok chk_ex1
  obtain ⟨pe, hp2⟩ := chkE_er chk_ex2
  have H1 := Lib.hid (fun (W : World) (hW : GlobT W) => mparse_any (s := ⟨#[109, 100, 112, 32, 109, 111, 100, 117, 108, 101, 32, 109, 32, 120, 32, 58, 32, 91, 48, 46, 46, 49, 93, 59, 32, 91, 93, 32, 120, 32, 61, 32, 48, 32, 45, 62, 32, 40, 120, 39, 32, 61, 32, 49, 41, 59, 32, 101, 110, 100, 109, 111, 100, 117, 108, 101]⟩) (D := 9) W hW.s (by decide) (by decide) (by decide))
  rw [show (⟨#[109, 100, 112, 32, 109, 111, 100, 117, 108, 101, 32, 109, 32, 120, 32, 58, 32, 91, 48, 46, 46, 49, 93, 59, 32, 91, 93, 32, 120, 32, 61, 32, 48, 32, 45, 62, 32, 40, 120, 39, 32, 61, 32, 49, 41, 59, 32, 101, 110, 100, 109, 111, 100, 117, 108, 101]⟩ : ByteArray).data.toList = [109, 100, 112, 32, 109, 111, 100, 117, 108, 101, 32, 109, 32, 120, 32, 58, 32, 91, 48, 46, 46, 49, 93, 59, 32, 91, 93, 32, 120, 32, 61, 32, 48, 32, 45, 62, 32, 40, 120, 39, 32, 61, 32, 49, 41, 59, 32, 101, 110, 100, 109, 111, 100, 117, 108, 101] from rfl, hp1] at H1
  have H2 := Lib.hid (fun (W : World) (hW : GlobT W) => mparse_any (s := ⟨#[109, 100, 112, 32, 109, 111, 100, 117, 108, 101]⟩) (D := 9) W hW.s (by decide) (by decide) (by decide))
  rw [show (⟨#[109, 100, 112, 32, 109, 111, 100, 117, 108, 101]⟩ : ByteArray).data.toList = [109, 100, 112, 32, 109, 111, 100, 117, 108, 101] from rfl, hp2] at H2
  have HG := Lib.hid hG
  clear hG hp1 hp2
  go_enter Tryz.func6, Tryz.ntmps6
  go_wp2_with fail
  refine (H1.out _ HG.out).mono ?_
  rintro e w1 ⟨v, rfl, hR, hb1⟩
  obtain ⟨g4, c4, d4, e4, hg4, ⟨A, ca, B, cb, rfl, _, hRc⟩, hc4⟩ := hR.r4.first
  obtain ⟨g5, c5, d5, e5, hg5, ⟨x5, A5, ca5, rfl, _, hRb⟩, hc5⟩ := hRc.first
  obtain ⟨g6, c6, d6, e6, hg6, ⟨A6, ca6, rfl, _⟩, hc6⟩ := hRb.first
  have k1 := hc4 2 _ rfl
  have k2 := hc5 6 _ rfl
  have k3 := hc6 0 _ rfl
  rw [e5] at k1
  rw [e6] at k2
  rw [e4]
  have HB1 := Lib.hid hb1
  clear hR hb1 hRc hRb hc4 hc5 hc6 e4 e5 e6
  dsimp only [MdV.v1, MdV.v2, MdV.v3]
  go_wp2_with fail
  refine calls_gen (P := fun W => W.cell? ⟨w1.heap.size, 3, none⟩ = some (.slice (some ⟨g4, 0, none⟩) 1 c4) ∧ W.cell? ⟨g4, 2, none⟩ = some (.slice (some ⟨g5, 0, none⟩) 1 c5) ∧ W.cell? ⟨g5, 6, none⟩ = some (.slice (some ⟨g6, 0, none⟩) (ps.length + 1) c6) ∧ W.cell? ⟨g6, 0, none⟩ = some (.int .i64 1) ∧ w1.heap.size < W.heap.size ∧ g4 < W.heap.size ∧ g5 < W.heap.size ∧ g6 < W.heap.size ∧ Below w.heap.size w W) ⟨by simp, by rw [World.cell?_alloc_lt _ _ ⟨g4, 2, none⟩ hg4]; exact k1, by rw [World.cell?_alloc_lt _ _ ⟨g5, 6, none⟩ hg5]; exact k2, by rw [World.cell?_alloc_lt _ _ ⟨g6, 0, none⟩ hg6]; exact k3, by simp, by simp; omega, by simp; omega, by simp; omega, HB1.out.alloc HB1.out.size _⟩ ?_
  clear k1 k2 k3 hg4 hg5 hg6 HB1
  rintro W ⟨q0, q1, q2, q3, l0, l1, l2, l3, hB⟩
  refine (H2.out W (HG.out.below hB)).mono ?_
  rintro e w2 ⟨eb, rfl, hA, hb2⟩
  have k0 : w2.cell? ⟨w1.heap.size, 3, none⟩ = some (.slice (some ⟨g4, 0, none⟩) 1 c4) := (hb2.cell (p := ⟨w1.heap.size, 3, none⟩) l0).trans q0
  have k1 : w2.cell? ⟨g4, 2, none⟩ = some (.slice (some ⟨g5, 0, none⟩) 1 c5) := (hb2.cell (p := ⟨g4, 2, none⟩) l1).trans q1
  have k2 : w2.cell? ⟨g5, 6, none⟩ = some (.slice (some ⟨g6, 0, none⟩) (ps.length + 1) c6) := (hb2.cell (p := ⟨g5, 6, none⟩) l2).trans q2
  have k3 : w2.cell? ⟨g6, 0, none⟩ = some (.int .i64 1) := (hb2.cell (p := ⟨g6, 0, none⟩) l3).trans q3
  have j0 : w1.heap.size < w2.heap.size := Nat.lt_of_lt_of_le l0 hb2.size
  have j1 : g4 < w2.heap.size := Nat.lt_of_lt_of_le l1 hb2.size
  have j2 : g5 < w2.heap.size := Nat.lt_of_lt_of_le l2 hb2.size
  have j3 : g6 < w2.heap.size := Nat.lt_of_lt_of_le l3 hb2.size
  have HB2 := Lib.hid (hB.trans (hb2.mono hB.size))
  have HA := Lib.hid hA
  clear q0 q1 q2 q3 l0 l1 l2 l3 hB hb2 hA
  go_wp2_with fail
  have hB3 := HB2.out.alloc HB2.out.size (.cells #[.slice none 0 0, .slice none 0 0, .slice none 0 0, .slice none 0 0] 26)
  refine (num_at eb _ _ _ (HG.out.below hB3).s.glob (HA.out.alloc _)).mono ?_
  rintro e w3 ⟨rfl, hb3⟩
  have HB3 := Lib.hid (hB3.trans (hb3.mono hB3.size))
  clear hb3 hB3
  go_wp2
  go_ret
  exact ⟨rfl, HB3.out⟩
end
end Go.Proofs.YtodijgndbjfbgaaGreatDoor
