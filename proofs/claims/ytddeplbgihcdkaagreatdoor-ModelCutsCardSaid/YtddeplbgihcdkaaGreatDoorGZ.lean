/-
  The model's last parts, one behind the other.
-/
import Derived.Test.YtddeplbgihcdkaaGreatDoorGf
import Derived.Deep.AppendLies
import Derived.Test.YtddeplbgihcdkaaGreatDoorGe
import Derived.Test.YtddeplbgihcdkaaGreatDoorGg
import Derived.Deep.RegionLaw
import Derived.RegionTactic
import Derived.Test.YtddeplbgihcdkaaGreatDoorG1
section
namespace Go.Proofs.YtddeplbgihcdkaaGreatDoor
open Go.RowKit

section
variable {xb rb b D : Nat} {st : St}
theorem info_lcom : (Tryz.prog.info? 161).map (fun i => (i.zero, i.size, i.bytes)) = some (some (.agg #[.string ⟨#[]⟩, .string ⟨#[]⟩, .string ⟨#[]⟩, .int .i64 0, .slice none 0 0, .int .i64 0, .slice none 0 0, .int .i64 0]), 8, 120) := by kernel_rfl
set_option maxHeartbeats 4000000 in
set_option maxRecDepth 100000 in
theorem lcom_any {b1 : Nat} {row0 : Option Nat} {A0 : Option Addr} {n0 cap0 : Nat} {l0 : List CmdO} (w : World) (h : MRd w xb rb b D st) (hb1 : b ≤ b1) (hbw : b1 ≤ w.heap.size) (hxr : xb < b1 ∧ rb < b1) (hrow : Row w b1 161 8 (CH w b1) l0 (.slice A0 n0 cap0)) (hr0 : (Value.slice A0 n0 cap0).ownBlock = row0) (hlen : l0.length + st.len ≤ 200000) :
    Calls Tryz.prog 217 #[.slice A0 n0 cap0, .func (.func 218) #[.pointer (some ⟨xb, 0, none⟩)] #[], .func (.func 219) #[.pointer (some ⟨xb, 0, none⟩)] #[]] w (LsP 161 8 CH xb rb b D b1 row0 l0 (st.list (fun t => isT t [91]) (St.cmnd D)) w) := by
  obtain ⟨i0, hi0, hz⟩ := Option.map_eq_some_iff.1 info_lcom
  simp only [Prod.mk.injEq] at hz
  obtain ⟨hz0, hz1, hz2⟩ := hz
  have HZ0 := Lib.hid hz0
  have HZ1 := Lib.hid hz1
  have HZ2 := Lib.hid hz2
  have HI := Lib.hid hi0
  have hd : Dec (fun t => isT t [91]) (St.cmnd D) := dec_cmnd D
  have HD := Lib.hid hd
  obtain ⟨tot, htot⟩ : ∃ tot, tot = st.list (fun t => isT t [91]) (St.cmnd D) := ⟨_, rfl⟩
  rw [← htot]
  have HR0 := Lib.hid (show LsRel 161 8 CH (fun t => isT t [91]) (St.cmnd D) xb rb b D b1 row0 l0 tot w st.len (.slice A0 n0 cap0) w from ⟨[], st, rfl, by simpa using hrow, h, by rw [htot]; simp, Fx.refl _ _, .inl hr0, by simpa using hlen⟩)
  clear hz0 hz1 hz2 hi0 hd h hrow hr0 hlen htot
  go_enter Tryz.func217, Tryz.ntmps217
  go_wp2
  go_loopg [0] st.len (fun gk v wr => LsRel 161 8 CH (fun t => isT t [91]) (St.cmnd D) xb rb b D b1 row0 l0 tot w gk v wr)
  case atStart => exact HR0.out
  case round =>
    clear HR0
    obtain ⟨acc, st1, rfl, hL⟩ := hrel
    obtain ⟨A1, cap1, hv1⟩ := hL.row.form
    subst hv1
    have HL := Lib.hid hL
    clear hL
    obtain ⟨N, hN⟩ : ∃ N, N = (l0 ++ acc).length := ⟨_, rfl⟩
    have HNN := Lib.hid hN
    rw [← hN]
    clear hN
    cases hp : isT st1.hd [91] with
    | false =>
      have HAN := Lib.hid (miscom_any wr HL.out.mr)
      have HT := Lib.hid (show acc = tot.1 ∧ st1 = tot.2 by
        have := HL.out.tot
        rw [list_end (p := (fun t => isT t [91])) (rd := (St.cmnd D)) hp] at this
        rw [← this]; simp)
      rw [hp] at HAN
      clear hp
      go_wp2_with fail
      refine (HAN.out).mono ?_
      rintro e w1 ⟨rfl, hb1'⟩
      have HB1 := Lib.hid hb1'
      clear hb1'
      go_wp2
      go_ret
      obtain ⟨e1, e2⟩ := HT.out
      have hN := HNN.out
      subst e1 e2
      exact ⟨A1, cap1, ret_slice hN, HL.out.row.keep (E := E0) (Kt.below HB1.out) id (fun _ _ h => h.keep (Kt.below (E := E0) HB1.out) id id id), HL.out.mr.below HB1.out, HL.out.fx.on HB1.out, HL.out.at_⟩
    | true =>
      have HAN := Lib.hid (miscom_any wr HL.out.mr)
      have HP := Lib.hid (show (fun t => isT t [91]) st1.hd = true from hp)
      have HLT := Lib.hid ((HD.out st1 hp).1)
      rw [hp] at HAN
      clear hp
      go_wp2_with fail
      refine (HAN.out).mono ?_
      rintro e w1 ⟨rfl, hb1'⟩
      have HM1 := Lib.hid (HL.out.mr.below hb1')
      have HK1 := Lib.hid (Fx.of (X := X2 xb rb) hb1')
      have HF1 := Lib.hid (show Fx (X3 xb rb row0) w w1 from HL.out.fx.on hb1')
      have hs1 := HF1.out.size
      clear hb1'
      go_wp2_with fail
      refine (mcom_any w1 HM1.out).mono ?_
      rintro e wA ⟨v, A, cap, rfl, hX, hR, hMA, hFA⟩
      have hFA' : Fx (X3 xb rb row0) w wA := HF1.out.trans hFA.three
      have hkt : Kt b1 E0 wr wA := Kt.fx (HK1.out.trans hFA) (fun k hk => x2_lt hk hxr.1 hxr.2)
      obtain ⟨cs, hO, hLH⟩ := HL.out.row
      have HO := Lib.hid (own_kt hO hkt id)
      have HLH := Lib.hid (hLH.imp (Q := CH wA b1) (fun _ _ h => h.keep hkt id id id))
      have HE := Lib.hid (show CH wA b1 ((St.cmnd D) st1).1 [.string ⟨(st1.cmnd D).1.act.toArray⟩, .string v.o, .string v.nm, .int .i64 v.n, .slice v.A v.ll v.cap, .int .i64 v.p, .slice A (st1.cmnd D).1.brs.length cap, .int .i64 (((st1.cmnd D).1.pos : Nat) : Int)] from ⟨v, A, cap, rfl, hX.mono (by omega), hR.mono (by omega) (fun _ _ h => h.mono (by omega))⟩)
      have HMA := Lib.hid (show MRd wA xb rb b D ((St.cmnd D) st1).2 from hMA)
      have HFA := Lib.hid hFA'
      have hbA : b1 ≤ wA.heap.size := by have := hFA'.size; omega
      have hNl : N ≤ 200000 := by rw [HNN.out, List.length_append]; have := HL.out.len; omega
      rw [← HNN.out] at HO
      have HOA := Lib.hid (own_kt HO.out (Kt.below (E := E0) ((Below.refl wA.heap.size wA).alloc (Nat.le_refl _) (.cells #[.string ⟨(st1.cmnd D).1.act.toArray⟩, .string v.o, .string v.nm, .int .i64 v.n, .slice v.A v.ll v.cap, .int .i64 v.p, .slice A (st1.cmnd D).1.brs.length cap, .int .i64 (((st1.cmnd D).1.pos : Nat) : Int)] 161))) id)
      clear hO hLH hFA hMA hFA' hkt hX hR
      go_wp2_with (at_builtin; refine wpList_append_lies _ rfl _ _ 153 rfl b1 161 i0 (.agg #[.string ⟨#[]⟩, .string ⟨#[]⟩, .string ⟨#[]⟩, .int .i64 0, .slice none 0 0, .int .i64 0, .slice none 0 0, .int .i64 0]) 8 120 Tryz.underlying153 HI.out HZ0.out HZ1.out HZ2.out rfl (by decide) _ _ _ rfl HOA.out ⟨wA.heap.size, 0, none⟩ 1 1 [.string ⟨(st1.cmnd D).1.act.toArray⟩, .string v.o, .string v.nm, .int .i64 v.n, .slice v.A v.ll v.cap, .int .i64 v.p, .slice A (st1.cmnd D).1.brs.length cap, .int .i64 (((st1.cmnd D).1.pos : Nat) : Int)] rfl rfl ?c1 ?c2 (by omega) ?c3 ?c4 ?c5 (wA.heap.size + 1) (by simp) ?_)
      case c1 => intro j u hj; exact (Bx.new wA 161 [.string ⟨(st1.cmnd D).1.act.toArray⟩, .string v.o, .string v.nm, .int .i64 v.n, .slice v.A v.ll v.cap, .int .i64 v.p, .slice A (st1.cmnd D).1.brs.length cap, .int .i64 (((st1.cmnd D).1.pos : Nat) : Int)]).cell_add hj
      case c2 => intro u hu; simp only [List.mem_cons, List.not_mem_nil, or_false] at hu; rcases hu with rfl | rfl | rfl | rfl | rfl | rfl | rfl | rfl <;> rfl
      case c3 => unfold maxLen; omega
      case c4 => omega
      case c5 => simp; omega
      intro g2 cap2 w3 hown3 hgrow3 hat3 hlt3
      have HR3 := Lib.hid (HL.out.step HD.out HP.out (by unfold RdT; decide) (fun _ _ _ _ _ hk h => h.keep hk (show ¬ (62 = 161) by decide) (show ¬ (201 = 161) by decide) (show ¬ (158 = 161) by decide)) hb1 (c := [.string ⟨(st1.cmnd D).1.act.toArray⟩, .string v.o, .string v.nm, .int .i64 v.n, .slice v.A v.ll v.cap, .int .i64 v.p, .slice A (st1.cmnd D).1.brs.length cap, .int .i64 (((st1.cmnd D).1.pos : Nat) : Int)]) (by rw [← HNN.out]; exact HO.out) HLH.out HE.out HMA.out HFA.out (by rw [← HNN.out]; exact hown3) (by rw [← HNN.out]; exact hgrow3) (by
        rcases hat3 with e | e
        · left; rw [← HNN.out]; exact e.symm
        · right; rw [e]; rfl))
      clear hown3 hgrow3 hat3
      go_wp2
      go_roundg ((St.cmnd D) st1).2.len
      case measure => exact HLT.out
      case rel => exact ⟨_, _, rfl, HR3.out⟩
end
end Go.Proofs.YtddeplbgihcdkaaGreatDoor
end
section
namespace Go.Proofs.YtddeplbgihcdkaaGreatDoor
open Go.RowKit

section
variable {xb rb b D : Nat} {st : St}
theorem info_lvar : (Tryz.prog.info? 200).map (fun i => (i.zero, i.size, i.bytes)) = some (some (.agg #[.string ⟨#[]⟩, .bool false, .string ⟨#[]⟩, .string ⟨#[]⟩, .int .i64 0, .slice none 0 0, .int .i64 0, .string ⟨#[]⟩, .string ⟨#[]⟩, .int .i64 0, .slice none 0 0, .int .i64 0, .string ⟨#[]⟩, .string ⟨#[]⟩, .int .i64 0, .slice none 0 0, .int .i64 0, .bool false, .int .i64 0]), 19, 256) := by kernel_rfl
set_option maxHeartbeats 4000000 in
set_option maxRecDepth 100000 in
theorem lvar_any {b1 : Nat} {row0 : Option Nat} {A0 : Option Addr} {n0 cap0 : Nat} {l0 : List VarO} (w : World) (h : MRd w xb rb b D st) (hb1 : b ≤ b1) (hbw : b1 ≤ w.heap.size) (hxr : xb < b1 ∧ rb < b1) (hrow : Row w b1 200 19 (VH w b1) l0 (.slice A0 n0 cap0)) (hr0 : (Value.slice A0 n0 cap0).ownBlock = row0) (hlen : l0.length + st.len ≤ 200000) :
    Calls Tryz.prog 214 #[.slice A0 n0 cap0, .func (.func 215) #[.pointer (some ⟨xb, 0, none⟩)] #[], .func (.func 216) #[.pointer (some ⟨xb, 0, none⟩)] #[]] w (LsP 200 19 VH xb rb b D b1 row0 l0 (st.list isNm (St.vrbl D)) w) := by
  obtain ⟨i0, hi0, hz⟩ := Option.map_eq_some_iff.1 info_lvar
  simp only [Prod.mk.injEq] at hz
  obtain ⟨hz0, hz1, hz2⟩ := hz
  have HZ0 := Lib.hid hz0
  have HZ1 := Lib.hid hz1
  have HZ2 := Lib.hid hz2
  have HI := Lib.hid hi0
  have hd : Dec isNm (St.vrbl D) := dec_vrbl D
  have HD := Lib.hid hd
  obtain ⟨tot, htot⟩ : ∃ tot, tot = st.list isNm (St.vrbl D) := ⟨_, rfl⟩
  rw [← htot]
  have HR0 := Lib.hid (show LsRel 200 19 VH isNm (St.vrbl D) xb rb b D b1 row0 l0 tot w st.len (.slice A0 n0 cap0) w from ⟨[], st, rfl, by simpa using hrow, h, by rw [htot]; simp, Fx.refl _ _, .inl hr0, by simpa using hlen⟩)
  clear hz0 hz1 hz2 hi0 hd h hrow hr0 hlen htot
  go_enter Tryz.func214, Tryz.ntmps214
  go_wp2
  go_loopg [0] st.len (fun gk v wr => LsRel 200 19 VH isNm (St.vrbl D) xb rb b D b1 row0 l0 tot w gk v wr)
  case atStart => exact HR0.out
  case round =>
    clear HR0
    obtain ⟨acc, st1, rfl, hL⟩ := hrel
    obtain ⟨A1, cap1, hv1⟩ := hL.row.form
    subst hv1
    have HL := Lib.hid hL
    clear hL
    obtain ⟨N, hN⟩ : ∃ N, N = (l0 ++ acc).length := ⟨_, rfl⟩
    have HNN := Lib.hid hN
    rw [← hN]
    clear hN
    cases hp : isNm st1.hd with
    | false =>
      have HAN := Lib.hid (misname_any wr HL.out.mr)
      have HT := Lib.hid (show acc = tot.1 ∧ st1 = tot.2 by
        have := HL.out.tot
        rw [list_end (p := isNm) (rd := (St.vrbl D)) hp] at this
        rw [← this]; simp)
      rw [hp] at HAN
      clear hp
      go_wp2_with fail
      refine (HAN.out).mono ?_
      rintro e w1 ⟨rfl, hb1'⟩
      have HB1 := Lib.hid hb1'
      clear hb1'
      go_wp2
      go_ret
      obtain ⟨e1, e2⟩ := HT.out
      have hN := HNN.out
      subst e1 e2
      exact ⟨A1, cap1, ret_slice hN, HL.out.row.keep (E := E0) (Kt.below HB1.out) id (fun _ _ h => h.keep (Kt.below (E := E0) HB1.out) id), HL.out.mr.below HB1.out, HL.out.fx.on HB1.out, HL.out.at_⟩
    | true =>
      have HAN := Lib.hid (misname_any wr HL.out.mr)
      have HP := Lib.hid (show isNm st1.hd = true from hp)
      have HLT := Lib.hid ((HD.out st1 hp).1)
      rw [hp] at HAN
      clear hp
      go_wp2_with fail
      refine (HAN.out).mono ?_
      rintro e w1 ⟨rfl, hb1'⟩
      have HM1 := Lib.hid (HL.out.mr.below hb1')
      have HK1 := Lib.hid (Fx.of (X := X2 xb rb) hb1')
      have HF1 := Lib.hid (show Fx (X3 xb rb row0) w w1 from HL.out.fx.on hb1')
      have hs1 := HF1.out.size
      clear hb1'
      go_wp2_with fail
      refine (mvar_any w1 HM1.out).mono ?_
      rintro e wA ⟨v1, v2, v3, rfl, hX1, hX2, hX3, hMA, hFA⟩
      have hFA' : Fx (X3 xb rb row0) w wA := HF1.out.trans hFA.three
      have hkt : Kt b1 E0 wr wA := Kt.fx (HK1.out.trans hFA) (fun k hk => x2_lt hk hxr.1 hxr.2)
      obtain ⟨cs, hO, hLH⟩ := HL.out.row
      have HO := Lib.hid (own_kt hO hkt id)
      have HLH := Lib.hid (hLH.imp (Q := VH wA b1) (fun _ _ h => h.keep hkt id))
      have HE := Lib.hid (show VH wA b1 ((St.vrbl D) st1).1 [.string ⟨(st1.vrbl D).1.nm.toArray⟩, .bool (st1.vrbl D).1.isB, .string v1.o, .string v1.nm, .int .i64 v1.n, .slice v1.A v1.ll v1.cap, .int .i64 v1.p, .string v2.o, .string v2.nm, .int .i64 v2.n, .slice v2.A v2.ll v2.cap, .int .i64 v2.p, .string v3.o, .string v3.nm, .int .i64 v3.n, .slice v3.A v3.ll v3.cap, .int .i64 v3.p, .bool (st1.vrbl D).1.has, .int .i64 (((st1.vrbl D).1.pos : Nat) : Int)] from ⟨v1, v2, v3, rfl, hX1.mono (by omega), hX2.mono (by omega), hX3.mono (by omega)⟩)
      have HMA := Lib.hid (show MRd wA xb rb b D ((St.vrbl D) st1).2 from hMA)
      have HFA := Lib.hid hFA'
      have hbA : b1 ≤ wA.heap.size := by have := hFA'.size; omega
      have hNl : N ≤ 200000 := by rw [HNN.out, List.length_append]; have := HL.out.len; omega
      rw [← HNN.out] at HO
      have HOA := Lib.hid (own_kt HO.out (Kt.below (E := E0) ((Below.refl wA.heap.size wA).alloc (Nat.le_refl _) (.cells #[.string ⟨(st1.vrbl D).1.nm.toArray⟩, .bool (st1.vrbl D).1.isB, .string v1.o, .string v1.nm, .int .i64 v1.n, .slice v1.A v1.ll v1.cap, .int .i64 v1.p, .string v2.o, .string v2.nm, .int .i64 v2.n, .slice v2.A v2.ll v2.cap, .int .i64 v2.p, .string v3.o, .string v3.nm, .int .i64 v3.n, .slice v3.A v3.ll v3.cap, .int .i64 v3.p, .bool (st1.vrbl D).1.has, .int .i64 (((st1.vrbl D).1.pos : Nat) : Int)] 200))) id)
      clear hO hLH hFA hMA hFA' hkt hX1 hX2 hX3
      go_wp2_with (at_builtin; refine wpList_append_lies _ rfl _ _ 152 rfl b1 200 i0 (.agg #[.string ⟨#[]⟩, .bool false, .string ⟨#[]⟩, .string ⟨#[]⟩, .int .i64 0, .slice none 0 0, .int .i64 0, .string ⟨#[]⟩, .string ⟨#[]⟩, .int .i64 0, .slice none 0 0, .int .i64 0, .string ⟨#[]⟩, .string ⟨#[]⟩, .int .i64 0, .slice none 0 0, .int .i64 0, .bool false, .int .i64 0]) 19 256 Tryz.underlying152 HI.out HZ0.out HZ1.out HZ2.out rfl (by decide) _ _ _ rfl HOA.out ⟨wA.heap.size, 0, none⟩ 1 1 [.string ⟨(st1.vrbl D).1.nm.toArray⟩, .bool (st1.vrbl D).1.isB, .string v1.o, .string v1.nm, .int .i64 v1.n, .slice v1.A v1.ll v1.cap, .int .i64 v1.p, .string v2.o, .string v2.nm, .int .i64 v2.n, .slice v2.A v2.ll v2.cap, .int .i64 v2.p, .string v3.o, .string v3.nm, .int .i64 v3.n, .slice v3.A v3.ll v3.cap, .int .i64 v3.p, .bool (st1.vrbl D).1.has, .int .i64 (((st1.vrbl D).1.pos : Nat) : Int)] rfl rfl ?c1 ?c2 (by omega) ?c3 ?c4 ?c5 (wA.heap.size + 1) (by simp) ?_)
      case c1 => intro j u hj; exact (Bx.new wA 200 [.string ⟨(st1.vrbl D).1.nm.toArray⟩, .bool (st1.vrbl D).1.isB, .string v1.o, .string v1.nm, .int .i64 v1.n, .slice v1.A v1.ll v1.cap, .int .i64 v1.p, .string v2.o, .string v2.nm, .int .i64 v2.n, .slice v2.A v2.ll v2.cap, .int .i64 v2.p, .string v3.o, .string v3.nm, .int .i64 v3.n, .slice v3.A v3.ll v3.cap, .int .i64 v3.p, .bool (st1.vrbl D).1.has, .int .i64 (((st1.vrbl D).1.pos : Nat) : Int)]).cell_add hj
      case c2 => intro u hu; simp only [List.mem_cons, List.not_mem_nil, or_false] at hu; rcases hu with rfl | rfl | rfl | rfl | rfl | rfl | rfl | rfl | rfl | rfl | rfl | rfl | rfl | rfl | rfl | rfl | rfl | rfl | rfl <;> rfl
      case c3 => unfold maxLen; omega
      case c4 => omega
      case c5 => simp; omega
      intro g2 cap2 w3 hown3 hgrow3 hat3 hlt3
      have HR3 := Lib.hid (HL.out.step HD.out HP.out (by unfold RdT; decide) (fun _ _ _ _ _ hk h => h.keep hk (show ¬ (62 = 200) by decide)) hb1 (c := [.string ⟨(st1.vrbl D).1.nm.toArray⟩, .bool (st1.vrbl D).1.isB, .string v1.o, .string v1.nm, .int .i64 v1.n, .slice v1.A v1.ll v1.cap, .int .i64 v1.p, .string v2.o, .string v2.nm, .int .i64 v2.n, .slice v2.A v2.ll v2.cap, .int .i64 v2.p, .string v3.o, .string v3.nm, .int .i64 v3.n, .slice v3.A v3.ll v3.cap, .int .i64 v3.p, .bool (st1.vrbl D).1.has, .int .i64 (((st1.vrbl D).1.pos : Nat) : Int)]) (by rw [← HNN.out]; exact HO.out) HLH.out HE.out HMA.out HFA.out (by rw [← HNN.out]; exact hown3) (by rw [← HNN.out]; exact hgrow3) (by
        rcases hat3 with e | e
        · left; rw [← HNN.out]; exact e.symm
        · right; rw [e]; rfl))
      clear hown3 hgrow3 hat3
      go_wp2
      go_roundg ((St.vrbl D) st1).2.len
      case measure => exact HLT.out
      case rel => exact ⟨_, _, rfl, HR3.out⟩
end
end Go.Proofs.YtddeplbgihcdkaaGreatDoor
end
section
namespace Go.Proofs.YtddeplbgihcdkaaGreatDoor
open Go.RowKit

section
variable {xb rb b D : Nat} {st : St}
/-- What a module's reader tells. -/
def MmP (xb rb b D : Nat) (d : ModO × St) (w : World) (e : Ending) (w' : World) : Prop :=
  ∃ (A : Option Addr) (cap : Nat) (B : Option Addr) (cap' : Nat), e = .returned (.agg #[.string ⟨d.1.nm.toArray⟩, .slice A d.1.vars.length cap, .slice B d.1.cmds.length cap', .int .i64 ((d.1.pos : Nat) : Int)]) ∧ Row w' (w.heap.size + 1) 200 19 (VH w' (w.heap.size + 1)) d.1.vars (.slice A d.1.vars.length cap) ∧ Row w' (w.heap.size + 1) 161 8 (CH w' (w.heap.size + 1)) d.1.cmds (.slice B d.1.cmds.length cap') ∧ MRd w' xb rb b D d.2 ∧ Fx (X2 xb rb) w w'
theorem Kt.mod {w : World} {c q : Nat} {cs : List Value} {i : Nat} {us : List Value} (h : Bx w q 155 cs) : Kt c (fun e => e = 155) w (Go.Proofs.YtddeplbgihcdkaaGreatDoor.setL w q i us) := fun k _ _ _ h1 h2 => setL_heap (show k ≠ q from fun hkq => h2 (blk_typ (hkq ▸ h1) h)) us w i
set_option maxHeartbeats 8000000 in
theorem mmodule_any (w : World) (h : MRd w xb rb b D st) : Calls Tryz.prog 180 #[.pointer (some ⟨xb, 0, none⟩)] w (MmP xb rb b D (st.modl D) w) := by
  have hx := h.ltx
  have hrb := h.hr
  have HN := Lib.hid h.nx
  have hbl := h.ble
  have H := Lib.hid h
  clear h
  go_enter Tryz.func180, Tryz.ntmps180
  go_wp2_with fail
  refine calls_gen (P := fun W => MRd W xb rb b D st ∧ Bx W w.heap.size 155 [.string ⟨#[]⟩, .slice none 0 0, .slice none 0 0, .int .i64 0] ∧ Fx (X2 xb rb) w W) ⟨H.out.alloc _, Bx.new _ _ _, (Fx.refl _ _).alloc _⟩ ?_
  rintro W ⟨hM, hB, hF⟩
  refine (mname_any W hM).mono ?_
  rintro e w1 ⟨rfl, hM1, hF1⟩
  have HM1 := Lib.hid hM1
  have HB1 := Lib.hid (hB.fx hF1 (HN.out _ (Nat.le_refl _)))
  have HF1 := Lib.hid (hF.trans hF1)
  have hs1 := HB1.out.lt
  clear hM hB hF hM1 hF1 H
  go_wp2_with fail
  refine calls_gen (P := fun W => MRd W xb rb b D st.name.2 ∧ Bx W w.heap.size 155 [.string ⟨#[]⟩, .slice none 0 0, .slice none 0 0, .int .i64 0] ∧ Bx W w1.heap.size 155 [.string ⟨st.name.1.1.toArray⟩, .slice none 0 0, .slice none 0 0, .int .i64 ((st.name.1.2 : Nat) : Int)] ∧ Fx (X2 xb rb) w W) ⟨HM1.out.alloc _, HB1.out.alloc _, Bx.new _ _ _, HF1.out.alloc _⟩ ?_
  rintro W ⟨hM, hB, hC, hF⟩
  have hlW := hC.lt
  have hln := hM.len
  refine (lvar_any (b1 := w.heap.size + 1) (row0 := none) (l0 := []) W hM (by omega) (by omega) ⟨by omega, by omega⟩ (Row.nil _ _ _ _ _) rfl (by simp; omega)).mono ?_
  rintro e w2 ⟨A, cap, rfl, hR2, hM2, hF2, _⟩
  have hF2' : Fx (X3 xb rb none) W w2 := hF2
  have HM2 := Lib.hid (show MRd w2 xb rb b D (st.vrbls D).2 from hM2)
  have hC2 := hC.fx hF2' (nx3 (HN.out _ (by omega)) (by simp))
  have HB2 := Lib.hid (hB.fx hF2' (nx3 (HN.out _ (Nat.le_refl _)) (by simp)))
  have HF2 := Lib.hid (hF.row hF2' (fun g hg => by cases hg))
  have HR2 := Lib.hid hR2
  obtain ⟨N, hN⟩ : ∃ N, N = (st.vrbls D).1.length := ⟨_, rfl⟩
  have HNN := Lib.hid hN
  rw [show (([] : List VarO) ++ (st.name.2.list isNm (St.vrbl D)).1).length = N from hN.symm] at HR2 ⊢
  have a0 := hC2.cell 0
  have a1 := hC2.cell 1
  have a2 := hC2.cell 2
  have a3 := hC2.cell 3
  simp only [List.getElem?_cons_zero, List.getElem?_cons_succ] at a0 a1 a2 a3
  have z0 := hC2.frozen 0
  have z1 := hC2.frozen 1
  have z2 := hC2.frozen 2
  have z3 := hC2.frozen 3
  have hl2 := hC2.lt
  have HC2 := Lib.hid hC2
  clear hM hB hC hF hR2 hM2 hF2 hF2' hC2 hN HM1 HB1 HF1 hln
  go_wp2_with fail
  have hk2 : Kt (w.heap.size + 1) (fun e => e = 155) w2 (w2.setCell ⟨w1.heap.size, 1, none⟩ (.slice A N cap)) := Kt.mod (i := 1) (us := [.slice A N cap]) HC2.out
  refine calls_gen (P := fun W => MRd W xb rb b D (st.vrbls D).2 ∧ Bx W w.heap.size 155 [.string ⟨#[]⟩, .slice none 0 0, .slice none 0 0, .int .i64 0] ∧ Bx W w1.heap.size 155 [.string ⟨st.name.1.1.toArray⟩, .slice A N cap, .slice none 0 0, .int .i64 ((st.name.1.2 : Nat) : Int)] ∧ Row W (w.heap.size + 1) 200 19 (VH W (w.heap.size + 1)) (st.vrbls D).1 (.slice A N cap) ∧ Fx (X2 xb rb) w W) ⟨HM2.out.set HC2.out (by unfold RdT; decide) (by omega) _, HB2.out.far (p := ⟨w1.heap.size, 1, none⟩) (by show w.heap.size ≠ w1.heap.size; omega) _, HC2.out.set 1 _, HR2.out.keep hk2 (show ¬ (200 = 155) by decide) (fun _ _ h => h.keep hk2 (show ¬ (62 = 155) by decide)), HF2.out.setCell (p := ⟨w1.heap.size, 1, none⟩) (.inl (by show _ ≤ w1.heap.size; omega)) _⟩ ?_
  rintro W3 ⟨hM, hB, hC, hR, hF⟩
  have hlW3 := hC.lt
  have hln := hM.len
  refine (lcom_any (b1 := w.heap.size + 1) (row0 := none) (l0 := []) W3 hM (by omega) (by omega) ⟨by omega, by omega⟩ (Row.nil _ _ _ _ _) rfl (by simp; omega)).mono ?_
  rintro e w4 ⟨B, cap', rfl, hR4, hM4, hF4, _⟩
  have hF4' : Fx (X3 xb rb none) W3 w4 := hF4
  have hF42 : Fx (X2 xb rb) W3 w4 := hF4'.wide fun _ _ => x3_none
  have HM4 := Lib.hid (show MRd w4 xb rb b D (st.cmnds D).2 from hM4)
  have hC4 := hC.fx hF42 (HN.out _ (by omega))
  have HB4 := Lib.hid (hB.fx hF42 (HN.out _ (Nat.le_refl _)))
  have HF4 := Lib.hid (hF.trans hF42)
  have hk4 : Kt (w.heap.size + 1) E0 W3 w4 := Kt.fx hF42 (fun k hk => by have := x2_lt hk hx hrb; omega)
  have HRv := Lib.hid (hR.keep hk4 id (fun _ _ h => h.keep hk4 id))
  have HR4 := Lib.hid hR4
  obtain ⟨K, hK⟩ : ∃ K, K = (st.cmnds D).1.length := ⟨_, rfl⟩
  have HKK := Lib.hid hK
  rw [show (([] : List CmdO) ++ ((st.vrbls D).2.list (fun t => isT t [91]) (St.cmnd D)).1).length = K from hK.symm] at HR4 ⊢
  have a0 := hC4.cell 0
  have a1 := hC4.cell 1
  have a2 := hC4.cell 2
  have a3 := hC4.cell 3
  simp only [List.getElem?_cons_zero, List.getElem?_cons_succ] at a0 a1 a2 a3
  have z0 := hC4.frozen 0
  have z1 := hC4.frozen 1
  have z2 := hC4.frozen 2
  have z3 := hC4.frozen 3
  have hl4 := hC4.lt
  have HC4 := Lib.hid hC4
  clear hM hB hC hR hF hR4 hM4 hF4 hF4' hF42 hC4 hk2 hk4 hK HM2 HB2 HC2 HR2 HF2 hln
  go_wp2_with fail
  have hk5 : Kt (w.heap.size + 1) (fun e => e = 155) w4 (w4.setCell ⟨w1.heap.size, 2, none⟩ (.slice B K cap')) := Kt.mod (i := 2) (us := [.slice B K cap']) HC4.out
  refine calls_gen (P := fun W => MRd W xb rb b D (st.cmnds D).2 ∧ Bx W w.heap.size 155 [.string ⟨#[]⟩, .slice none 0 0, .slice none 0 0, .int .i64 0] ∧ Bx W w1.heap.size 155 [.string ⟨st.name.1.1.toArray⟩, .slice A N cap, .slice B K cap', .int .i64 ((st.name.1.2 : Nat) : Int)] ∧ Row W (w.heap.size + 1) 200 19 (VH W (w.heap.size + 1)) (st.vrbls D).1 (.slice A N cap) ∧ Row W (w.heap.size + 1) 161 8 (CH W (w.heap.size + 1)) (st.cmnds D).1 (.slice B K cap') ∧ Fx (X2 xb rb) w W) ⟨HM4.out.set HC4.out (by unfold RdT; decide) (by omega) _, HB4.out.far (p := ⟨w1.heap.size, 2, none⟩) (by show w.heap.size ≠ w1.heap.size; omega) _, HC4.out.set 2 _, HRv.out.keep hk5 (show ¬ (200 = 155) by decide) (fun _ _ h => h.keep hk5 (show ¬ (62 = 155) by decide)), HR4.out.keep hk5 (show ¬ (161 = 155) by decide) (fun _ _ h => h.keep hk5 (show ¬ (62 = 155) by decide) (show ¬ (201 = 155) by decide) (show ¬ (158 = 155) by decide)), HF4.out.setCell (p := ⟨w1.heap.size, 2, none⟩) (.inl (by show _ ≤ w1.heap.size; omega)) _⟩ ?_
  rintro W5 ⟨hM, hB, hC, hR, hRc, hF⟩
  refine (mwant_any W5 hM _).mono ?_
  rintro e wZ ⟨rfl, hMZ, hFZ⟩
  have HMZ := Lib.hid (show MRd wZ xb rb b D (st.modl D).2 from hMZ)
  have hBZ := hB.fx hFZ (HN.out _ (Nat.le_refl _))
  have hCZ := hC.fx hFZ (HN.out _ (by omega))
  have hkZ : Kt (w.heap.size + 1) E0 W5 wZ := Kt.fx hFZ (fun k hk => by have := x2_lt hk hx hrb; omega)
  have HRZ := Lib.hid (hR.keep hkZ id (fun _ _ h => h.keep hkZ id))
  have HRC := Lib.hid (hRc.keep hkZ id (fun _ _ h => h.keep hkZ id id id))
  have HFZ := Lib.hid (hF.trans hFZ)
  have a0 := hCZ.cell 0
  have a1 := hCZ.cell 1
  have a2 := hCZ.cell 2
  have a3 := hCZ.cell 3
  simp only [List.getElem?_cons_zero, List.getElem?_cons_succ] at a0 a1 a2 a3
  have d0 := hBZ.cell 0
  have d1 := hBZ.cell 1
  have d2 := hBZ.cell 2
  have d3 := hBZ.cell 3
  simp only [List.getElem?_cons_zero, List.getElem?_cons_succ] at d0 d1 d2 d3
  have y0 := hBZ.frozen 0
  have y1 := hBZ.frozen 1
  have y2 := hBZ.frozen 2
  have y3 := hBZ.frozen 3
  have hlZ := hCZ.lt
  have hlB := hBZ.lt
  have HBZ := Lib.hid hBZ
  clear hM hB hC hR hRc hF hMZ hFZ hBZ hCZ hkZ hk5 HM4 HB4 HC4 HR4 HRv HF4
  go_wp2
  have hBf := HBZ.out.setL (i := 0) (us := [.string ⟨st.name.1.1.toArray⟩, .slice A N cap, .slice B K cap', .int .i64 ((st.name.1.2 : Nat) : Int)])
  simp only [setL, setLs, List.set_cons_zero, List.set_cons_succ] at hBf
  have hks : Kt (w.heap.size + 1) E0 wZ (setL wZ w.heap.size 0 [.string ⟨st.name.1.1.toArray⟩, .slice A N cap, .slice B K cap', .int .i64 ((st.name.1.2 : Nat) : Int)]) := Kt.setL (by omega)
  refine bodyPost_ret (v := .agg #[.string ⟨st.name.1.1.toArray⟩, .slice A N cap, .slice B K cap', .int .i64 ((st.name.1.2 : Nat) : Int)]) (by simp [results, Tryz.results180, go_sem, hBf.cell]) rfl ⟨A, cap, B, cap', by rw [HNN.out, HKK.out]; rfl, ?_, ?_, ?_, ?_⟩
  · have hr := HRZ.out.keep hks id (fun _ _ h => h.keep hks id)
    rw [HNN.out, HKK.out] at hr
    rw [HNN.out, HKK.out]
    exact hr
  · have hr := HRC.out.keep hks id (fun _ _ h => h.keep hks id id id)
    rw [HNN.out, HKK.out] at hr
    rw [HNN.out, HKK.out]
    exact hr
  · exact MRd.setL (i := 0) (us := [.string ⟨st.name.1.1.toArray⟩, .slice A N cap, .slice B K cap', .int .i64 ((st.name.1.2 : Nat) : Int)]) (by unfold RdT; decide) (by omega) HMZ.out HBZ.out
  · exact Fx.setL (i := 0) (us := [.string ⟨st.name.1.1.toArray⟩, .slice A N cap, .slice B K cap', .int .i64 ((st.name.1.2 : Nat) : Int)]) (.inl (Nat.le_refl _)) HFZ.out
theorem info_lmod : (Tryz.prog.info? 155).map (fun i => (i.zero, i.size, i.bytes)) = some (some (.agg #[.string ⟨#[]⟩, .slice none 0 0, .slice none 0 0, .int .i64 0]), 4, 72) := by kernel_rfl
set_option maxHeartbeats 4000000 in
set_option maxRecDepth 100000 in
theorem lmod_any {b1 : Nat} {row0 : Option Nat} {A0 : Option Addr} {n0 cap0 : Nat} {l0 : List ModO} (w : World) (h : MRd w xb rb b D st) {p q : Nat} (x : ByteArray) (hc : CapS w xb rb p q x) (hcr : row0 ≠ some p ∧ row0 ≠ some q) (hb1 : b ≤ b1) (hbw : b1 ≤ w.heap.size) (hxr : xb < b1 ∧ rb < b1) (hrow : Row w b1 155 4 (MH w b1) l0 (.slice A0 n0 cap0)) (hr0 : (Value.slice A0 n0 cap0).ownBlock = row0) (hlen : l0.length + st.len ≤ 200000) :
    Calls Tryz.prog 179 #[.slice A0 n0 cap0, .func (.func 210) #[] #[.pointer (some ⟨p, 0, none⟩), .pointer (some ⟨q, 0, none⟩)], .func (.func 180) #[.pointer (some ⟨xb, 0, none⟩)] #[]] w (LsP 155 4 MH xb rb b D b1 row0 l0 (st.list (fun t => isT t x.data.toList) (fun s : St => s.tl.modl D)) w) := by
  obtain ⟨i0, hi0, hz⟩ := Option.map_eq_some_iff.1 info_lmod
  simp only [Prod.mk.injEq] at hz
  obtain ⟨hz0, hz1, hz2⟩ := hz
  have HZ0 := Lib.hid hz0
  have HZ1 := Lib.hid hz1
  have HZ2 := Lib.hid hz2
  have HI := Lib.hid hi0
  have hd : Dec (fun t => isT t x.data.toList) (fun s : St => s.tl.modl D) := dec_tl (modl_le D)
  have HD := Lib.hid hd
  obtain ⟨tot, htot⟩ : ∃ tot, tot = st.list (fun t => isT t x.data.toList) (fun s : St => s.tl.modl D) := ⟨_, rfl⟩
  rw [← htot]
  have HR0 := Lib.hid (show LsRel 155 4 MH (fun t => isT t x.data.toList) (fun s : St => s.tl.modl D) xb rb b D b1 row0 l0 tot w st.len (.slice A0 n0 cap0) w from ⟨[], st, rfl, by simpa using hrow, h, by rw [htot]; simp, Fx.refl _ _, .inl hr0, by simpa using hlen⟩)
  have HC := Lib.hid (fun (wr : World) (hf : Fx (X3 xb rb row0) w wr) => hc.fx3 hf hcr)
  clear hc hcr
  clear hz0 hz1 hz2 hi0 hd h hrow hr0 hlen htot
  go_enter Tryz.func179, Tryz.ntmps179
  go_wp2
  go_loopg [0] st.len (fun gk v wr => LsRel 155 4 MH (fun t => isT t x.data.toList) (fun s : St => s.tl.modl D) xb rb b D b1 row0 l0 tot w gk v wr)
  case atStart => exact HR0.out
  case round =>
    clear HR0
    obtain ⟨acc, st1, rfl, hL⟩ := hrel
    obtain ⟨A1, cap1, hv1⟩ := hL.row.form
    subst hv1
    have HL := Lib.hid hL
    clear hL
    obtain ⟨N, hN⟩ : ∃ N, N = (l0 ++ acc).length := ⟨_, rfl⟩
    have HNN := Lib.hid hN
    rw [← hN]
    clear hN
    cases hp : isT st1.hd x.data.toList with
    | false =>
      have HAN := Lib.hid (mskipc_no wr HL.out.mr x (HC.out wr HL.out.fx) hp)
      have HT := Lib.hid (show acc = tot.1 ∧ st1 = tot.2 by
        have := HL.out.tot
        rw [list_end (p := (fun t => isT t x.data.toList)) (rd := (fun s : St => s.tl.modl D)) hp] at this
        rw [← this]; simp)
      skip
      clear hp
      go_wp2_with fail
      refine (HAN.out).mono ?_
      rintro e w1 ⟨rfl, hb1'⟩
      have HB1 := Lib.hid hb1'
      clear hb1'
      go_wp2
      go_ret
      obtain ⟨e1, e2⟩ := HT.out
      have hN := HNN.out
      subst e1 e2
      exact ⟨A1, cap1, ret_slice hN, HL.out.row.keep (E := E0) (Kt.below HB1.out) id (fun _ _ h => h.keep (Kt.below (E := E0) HB1.out) id id id id id), HL.out.mr.below HB1.out, HL.out.fx.on HB1.out, HL.out.at_⟩
    | true =>
      have HAN := Lib.hid (mskipc_yes wr HL.out.mr x (HC.out wr HL.out.fx) hp)
      have HP := Lib.hid (show (fun t => isT t x.data.toList) st1.hd = true from hp)
      have HLT := Lib.hid ((HD.out st1 hp).1)
      skip
      clear hp
      go_wp2_with fail
      refine (HAN.out).mono ?_
      rintro e w1 ⟨rfl, hM1, hF1⟩
      have HM1 := Lib.hid hM1
      have HK1 := Lib.hid hF1
      have HF1 := Lib.hid (show Fx (X3 xb rb row0) w w1 from HL.out.fx.trans hF1.three)
      have hs1 := HF1.out.size
      clear hM1 hF1
      go_wp2_with fail
      refine (mmodule_any w1 HM1.out).mono ?_
      rintro e wA ⟨A, cap, B, cap', rfl, hRv, hRc, hMA, hFA⟩
      have hFA' : Fx (X3 xb rb row0) w wA := HF1.out.trans hFA.three
      have hkt : Kt b1 E0 wr wA := Kt.fx (HK1.out.trans hFA) (fun k hk => x2_lt hk hxr.1 hxr.2)
      obtain ⟨cs, hO, hLH⟩ := HL.out.row
      have HO := Lib.hid (own_kt hO hkt id)
      have HLH := Lib.hid (hLH.imp (Q := MH wA b1) (fun _ _ h => h.keep hkt id id id id id))
      have HE := Lib.hid (show MH wA b1 ((fun s : St => s.tl.modl D) st1).1 [.string ⟨(st1.tl.modl D).1.nm.toArray⟩, .slice A (st1.tl.modl D).1.vars.length cap, .slice B (st1.tl.modl D).1.cmds.length cap', .int .i64 (((st1.tl.modl D).1.pos : Nat) : Int)] from ⟨A, cap, B, cap', rfl, hRv.mono (by omega) (fun _ _ h => h.mono (by omega)), hRc.mono (by omega) (fun _ _ h => h.mono (by omega))⟩)
      have HMA := Lib.hid (show MRd wA xb rb b D ((fun s : St => s.tl.modl D) st1).2 from hMA)
      have HFA := Lib.hid hFA'
      have hbA : b1 ≤ wA.heap.size := by have := hFA'.size; omega
      have hNl : N ≤ 200000 := by rw [HNN.out, List.length_append]; have := HL.out.len; omega
      rw [← HNN.out] at HO
      have HOA := Lib.hid (own_kt HO.out (Kt.below (E := E0) ((Below.refl wA.heap.size wA).alloc (Nat.le_refl _) (.cells #[.string ⟨(st1.tl.modl D).1.nm.toArray⟩, .slice A (st1.tl.modl D).1.vars.length cap, .slice B (st1.tl.modl D).1.cmds.length cap', .int .i64 (((st1.tl.modl D).1.pos : Nat) : Int)] 155))) id)
      clear hO hLH hFA hMA hFA' hkt hRv hRc
      go_wp2_with (at_builtin; refine wpList_append_lies _ rfl _ _ 79 rfl b1 155 i0 (.agg #[.string ⟨#[]⟩, .slice none 0 0, .slice none 0 0, .int .i64 0]) 4 72 Tryz.underlying79 HI.out HZ0.out HZ1.out HZ2.out rfl (by decide) _ _ _ rfl HOA.out ⟨wA.heap.size, 0, none⟩ 1 1 [.string ⟨(st1.tl.modl D).1.nm.toArray⟩, .slice A (st1.tl.modl D).1.vars.length cap, .slice B (st1.tl.modl D).1.cmds.length cap', .int .i64 (((st1.tl.modl D).1.pos : Nat) : Int)] rfl rfl ?c1 ?c2 (by omega) ?c3 ?c4 ?c5 (wA.heap.size + 1) (by simp) ?_)
      case c1 => intro j u hj; exact (Bx.new wA 155 [.string ⟨(st1.tl.modl D).1.nm.toArray⟩, .slice A (st1.tl.modl D).1.vars.length cap, .slice B (st1.tl.modl D).1.cmds.length cap', .int .i64 (((st1.tl.modl D).1.pos : Nat) : Int)]).cell_add hj
      case c2 => intro u hu; simp only [List.mem_cons, List.not_mem_nil, or_false] at hu; rcases hu with rfl | rfl | rfl | rfl <;> rfl
      case c3 => unfold maxLen; omega
      case c4 => omega
      case c5 => simp; omega
      intro g2 cap2 w3 hown3 hgrow3 hat3 hlt3
      have HR3 := Lib.hid (HL.out.step HD.out HP.out (by unfold RdT; decide) (fun _ _ _ _ _ hk h => h.keep hk (show ¬ (62 = 155) by decide) (show ¬ (201 = 155) by decide) (show ¬ (158 = 155) by decide) (show ¬ (200 = 155) by decide) (show ¬ (161 = 155) by decide)) hb1 (c := [.string ⟨(st1.tl.modl D).1.nm.toArray⟩, .slice A (st1.tl.modl D).1.vars.length cap, .slice B (st1.tl.modl D).1.cmds.length cap', .int .i64 (((st1.tl.modl D).1.pos : Nat) : Int)]) (by rw [← HNN.out]; exact HO.out) HLH.out HE.out HMA.out HFA.out (by rw [← HNN.out]; exact hown3) (by rw [← HNN.out]; exact hgrow3) (by
        rcases hat3 with e | e
        · left; rw [← HNN.out]; exact e.symm
        · right; rw [e]; rfl))
      clear hown3 hgrow3 hat3
      go_wp2
      go_roundg ((fun s : St => s.tl.modl D) st1).2.len
      case measure => exact HLT.out
      case rel => exact ⟨_, _, rfl, HR3.out⟩
end
end Go.Proofs.YtddeplbgihcdkaaGreatDoor
end
section
namespace Go.Proofs.YtddeplbgihcdkaaGreatDoor
open Go.RowKit

/-- A model in its box; its lists lie apart, from b1 on. -/
structure MdV where
  A1 : Option Addr
  c1 : Nat
  A2 : Option Addr
  c2 : Nat
  A3 : Option Addr
  c3 : Nat
  A4 : Option Addr
  c4 : Nat
def MdV.v1 (v : MdV) (m : MdlO) : Value := .slice v.A1 m.consts.length v.c1
def MdV.v2 (v : MdV) (m : MdlO) : Value := .slice v.A2 m.formulas.length v.c2
def MdV.v3 (v : MdV) (m : MdlO) : Value := .slice v.A3 m.labels.length v.c3
def MdV.v4 (v : MdV) (m : MdlO) : Value := .slice v.A4 m.mods.length v.c4
def Apart (u v : Value) : Prop := ∀ g, u.ownBlock = some g → v.ownBlock ≠ some g
theorem Apart.symm {u v : Value} (h : Apart u v) : Apart v u := fun g h1 h2 => h g h2 h1
structure MdR (w : World) (b1 : Nat) (m : MdlO) (v : MdV) : Prop where
  r1 : Row w b1 173 7 (DH w b1) m.consts (v.v1 m)
  r2 : Row w b1 173 7 (DH w b1) m.formulas (v.v2 m)
  r3 : Row w b1 173 7 (DH w b1) m.labels (v.v3 m)
  r4 : Row w b1 155 4 (MH w b1) m.mods (v.v4 m)
  d12 : Apart (v.v1 m) (v.v2 m)
  d13 : Apart (v.v1 m) (v.v3 m)
  d23 : Apart (v.v2 m) (v.v3 m)
def MdM (w : World) (b1 mb : Nat) (m : MdlO) : Prop := ∃ v : MdV, Bx w mb 81 [v.v1 m, v.v2 m, v.v3 m, v.v4 m] ∧ MdR w b1 m v
section
variable {w w' : World} {b1 mb : Nat} {m : MdlO}
theorem MdR.keep {v : MdV} (h : MdR w b1 m v) (hk : Kt b1 E0 w w') : MdR w' b1 m v :=
  ⟨h.r1.keep hk id (fun _ _ h => h.keep hk id), h.r2.keep hk id (fun _ _ h => h.keep hk id), h.r3.keep hk id (fun _ _ h => h.keep hk id), h.r4.keep hk id (fun _ _ h => h.keep hk id id id id id), h.d12, h.d13, h.d23⟩
theorem MdR.keepM {v : MdV} (h : MdR w b1 m v) (hk : Kt b1 (fun e => e = 81) w w') : MdR w' b1 m v :=
  ⟨h.r1.keep hk (show ¬ (173 = 81) by decide) (fun _ _ h => h.keep hk (show ¬ (62 = 81) by decide)), h.r2.keep hk (show ¬ (173 = 81) by decide) (fun _ _ h => h.keep hk (show ¬ (62 = 81) by decide)), h.r3.keep hk (show ¬ (173 = 81) by decide) (fun _ _ h => h.keep hk (show ¬ (62 = 81) by decide)), h.r4.keep hk (show ¬ (155 = 81) by decide) (fun _ _ h => h.keep hk (show ¬ (62 = 81) by decide) (show ¬ (201 = 81) by decide) (show ¬ (158 = 81) by decide) (show ¬ (200 = 81) by decide) (show ¬ (161 = 81) by decide)), h.d12, h.d13, h.d23⟩
theorem Kt.mdl {c q : Nat} {cs : List Value} {i : Nat} {u : Value} (h : Bx w q 81 cs) : Kt c (fun e => e = 81) w (w.setCell ⟨q, i, none⟩ u) := fun k _ _ _ h1 h2 => Below.heap_setCell w ⟨q, i, none⟩ u k (show k ≠ q from fun hkq => h2 (blk_typ (hkq ▸ h1) h))
theorem MdM.below (h : MdM w b1 mb m) (hb : Below w.heap.size w w') : MdM w' b1 mb m := by
  obtain ⟨v, h1, h2⟩ := h
  exact ⟨v, h1.below hb, h2.keep (Kt.below hb)⟩
/-- A list of another row, of the same type. -/
theorem Row.keepB {α : Type} {t : TypeId} {sz : Nat} {xs : List α} {v : Value} {P : World → Nat → α → List Value → Prop} (h : Row w b1 t sz (P w b1) xs v) (hblk : ∀ g, v.ownBlock = some g → w'.heap[g]? = w.heap[g]?) (hp : ∀ a c, P w b1 a c → P w' b1 a c) : Row w' b1 t sz (P w' b1) xs v := by
  obtain ⟨cs, h1, h2⟩ := h
  refine ⟨cs, ⟨h1.1, ?_⟩, h2.imp hp⟩
  rcases h1.2 with h | ⟨g, cap, cur, h3, h4, h5, h6⟩
  · exact .inl h
  · exact .inr ⟨g, cap, cur, h3, h4, (hblk g (by rw [h3]; rfl)).trans h5, h6⟩
theorem Row.ownb {α : Type} {t : TypeId} {sz : Nat} {xs : List α} {v : Value} {P : α → List Value → Prop} (h : Row w b1 t sz P xs v) : ∀ g, v.ownBlock = some g → b1 ≤ g ∧ ∃ cur : Array Value, w.heap[g]? = some (.cells cur t (0, 0)) := by
  obtain ⟨cs, h1, _⟩ := h
  exact own_typ h1
theorem kt_row {xb rb : Nat} {t : TypeId} {u : Value} (hf : Fx (X3 xb rb u.ownBlock) w w') (hx : xb < b1) (hr : rb < b1) (hu : ∀ g, u.ownBlock = some g → ∃ cur : Array Value, w.heap[g]? = some (.cells cur t (0, 0))) : Kt b1 (fun e => e = t) w w' := by
  intro k cs e hk h1 h2
  refine hf.block k (blk_lt h1) (fun h3 => ?_)
  rcases h3 with h3 | h3 | h3
  · omega
  · omega
  · obtain ⟨cur, h4⟩ := hu k h3
    exact h2 (blk_typ h1 h4)
end
/-- What has been appended to one of the four lists. -/
def MdlO.put (m : MdlO) (i : Nat) (l : List DefO) : MdlO := if i = 0 then { m with consts := m.consts ++ l } else if i = 1 then { m with formulas := m.formulas ++ l } else { m with labels := m.labels ++ l }
section
variable {w w' : World} {b1 xb rb : Nat} {m : MdlO} {v : MdV}
theorem ap_new {u u' : Value} {row : Option Nat} (hd : ∀ g, row = some g → u'.ownBlock ≠ some g) (hl : ∀ g, u'.ownBlock = some g → g < w.heap.size) (h : u.ownBlock = row ∨ ∀ g, u.ownBlock = some g → w.heap.size ≤ g) : Apart u u' := by
  intro g hg hg'
  rcases h with h | h
  · exact hd g (h.symm.trans hg) hg'
  · have := h g hg
    have := hl g hg'
    omega
theorem Row.ltb {α : Type} {t : TypeId} {sz : Nat} {xs : List α} {u : Value} {P : α → List Value → Prop} (h : Row w b1 t sz P xs u) : ∀ g, u.ownBlock = some g → g < w.heap.size := fun g hg => by
  obtain ⟨_, cur, h1⟩ := h.ownb g hg
  exact blk_lt h1
theorem x3_ne {k : Nat} {row : Option Nat} (h1 : xb < k) (h2 : rb < k) (h3 : row ≠ some k) : ¬ X3 xb rb row k := fun h => by
  rcases h with h | h | h
  · omega
  · omega
  · exact h3 h
/-- The constants have grown. -/
theorem MdR.put1 {l : List DefO} {A : Option Addr} {cap : Nat} (h : MdR w b1 m v) (hx : xb < b1) (hr : rb < b1) (hf : Fx (X3 xb rb (v.v1 m).ownBlock) w w') (hR : Row w' b1 173 7 (DH w' b1) (m.consts ++ l) (.slice A (m.consts ++ l).length cap)) (hat : (Value.slice A (m.consts ++ l).length cap).ownBlock = (v.v1 m).ownBlock ∨ ∀ g, (Value.slice A (m.consts ++ l).length cap).ownBlock = some g → w.heap.size ≤ g) :
    MdR w' b1 { m with consts := m.consts ++ l } { v with A1 := A, c1 := cap } := by
  have hk := kt_row hf hx hr (fun g hg => (h.r1.ownb g hg).2)
  exact ⟨hR, h.r2.keepB (fun g hg => hf.block g (h.r2.ltb g hg) (x3_ne (by have := (h.r2.ownb g hg).1; omega) (by have := (h.r2.ownb g hg).1; omega) (fun e => h.d12 g e hg))) (fun _ _ h => h.keep hk (show ¬ (62 = 173) by decide)),
    h.r3.keepB (fun g hg => hf.block g (h.r3.ltb g hg) (x3_ne (by have := (h.r3.ownb g hg).1; omega) (by have := (h.r3.ownb g hg).1; omega) (fun e => h.d13 g e hg))) (fun _ _ h => h.keep hk (show ¬ (62 = 173) by decide)),
    h.r4.keep hk (show ¬ (155 = 173) by decide) (fun _ _ h => h.keep hk (show ¬ (62 = 173) by decide) (show ¬ (201 = 173) by decide) (show ¬ (158 = 173) by decide) (show ¬ (200 = 173) by decide) (show ¬ (161 = 173) by decide)),
    ap_new (w := w) (fun g hg => h.d12 g hg) h.r2.ltb hat, ap_new (w := w) (fun g hg => h.d13 g hg) h.r3.ltb hat, h.d23⟩
/-- The formulas have grown. -/
theorem MdR.put2 {l : List DefO} {A : Option Addr} {cap : Nat} (h : MdR w b1 m v) (hx : xb < b1) (hr : rb < b1) (hf : Fx (X3 xb rb (v.v2 m).ownBlock) w w') (hR : Row w' b1 173 7 (DH w' b1) (m.formulas ++ l) (.slice A (m.formulas ++ l).length cap)) (hat : (Value.slice A (m.formulas ++ l).length cap).ownBlock = (v.v2 m).ownBlock ∨ ∀ g, (Value.slice A (m.formulas ++ l).length cap).ownBlock = some g → w.heap.size ≤ g) :
    MdR w' b1 { m with formulas := m.formulas ++ l } { v with A2 := A, c2 := cap } := by
  have hk := kt_row hf hx hr (fun g hg => (h.r2.ownb g hg).2)
  exact ⟨h.r1.keepB (fun g hg => hf.block g (h.r1.ltb g hg) (x3_ne (by have := (h.r1.ownb g hg).1; omega) (by have := (h.r1.ownb g hg).1; omega) (fun e => h.d12 g hg e))) (fun _ _ h => h.keep hk (show ¬ (62 = 173) by decide)), hR,
    h.r3.keepB (fun g hg => hf.block g (h.r3.ltb g hg) (x3_ne (by have := (h.r3.ownb g hg).1; omega) (by have := (h.r3.ownb g hg).1; omega) (fun e => h.d23 g e hg))) (fun _ _ h => h.keep hk (show ¬ (62 = 173) by decide)),
    h.r4.keep hk (show ¬ (155 = 173) by decide) (fun _ _ h => h.keep hk (show ¬ (62 = 173) by decide) (show ¬ (201 = 173) by decide) (show ¬ (158 = 173) by decide) (show ¬ (200 = 173) by decide) (show ¬ (161 = 173) by decide)),
    (ap_new (w := w) (fun g hg hg' => h.d12 g hg' hg) h.r1.ltb hat).symm, h.d13, ap_new (w := w) (fun g hg => h.d23 g hg) h.r3.ltb hat⟩
/-- The labels have grown. -/
theorem MdR.put3 {l : List DefO} {A : Option Addr} {cap : Nat} (h : MdR w b1 m v) (hx : xb < b1) (hr : rb < b1) (hf : Fx (X3 xb rb (v.v3 m).ownBlock) w w') (hR : Row w' b1 173 7 (DH w' b1) (m.labels ++ l) (.slice A (m.labels ++ l).length cap)) (hat : (Value.slice A (m.labels ++ l).length cap).ownBlock = (v.v3 m).ownBlock ∨ ∀ g, (Value.slice A (m.labels ++ l).length cap).ownBlock = some g → w.heap.size ≤ g) :
    MdR w' b1 { m with labels := m.labels ++ l } { v with A3 := A, c3 := cap } := by
  have hk := kt_row hf hx hr (fun g hg => (h.r3.ownb g hg).2)
  exact ⟨h.r1.keepB (fun g hg => hf.block g (h.r1.ltb g hg) (x3_ne (by have := (h.r1.ownb g hg).1; omega) (by have := (h.r1.ownb g hg).1; omega) (fun e => h.d13 g hg e))) (fun _ _ h => h.keep hk (show ¬ (62 = 173) by decide)),
    h.r2.keepB (fun g hg => hf.block g (h.r2.ltb g hg) (x3_ne (by have := (h.r2.ownb g hg).1; omega) (by have := (h.r2.ownb g hg).1; omega) (fun e => h.d23 g hg e))) (fun _ _ h => h.keep hk (show ¬ (62 = 173) by decide)), hR,
    h.r4.keep hk (show ¬ (155 = 173) by decide) (fun _ _ h => h.keep hk (show ¬ (62 = 173) by decide) (show ¬ (201 = 173) by decide) (show ¬ (158 = 173) by decide) (show ¬ (200 = 173) by decide) (show ¬ (161 = 173) by decide)),
    h.d12, (ap_new (w := w) (fun g hg hg' => h.d13 g hg' hg) h.r1.ltb hat).symm, (ap_new (w := w) (fun g hg hg' => h.d23 g hg' hg) h.r2.ltb hat).symm⟩
/-- The modules have grown. -/
theorem MdR.put4 {l : List ModO} {A : Option Addr} {cap : Nat} (h : MdR w b1 m v) (hx : xb < b1) (hr : rb < b1) (hf : Fx (X3 xb rb (v.v4 m).ownBlock) w w') (hR : Row w' b1 155 4 (MH w' b1) (m.mods ++ l) (.slice A (m.mods ++ l).length cap)) :
    MdR w' b1 { m with mods := m.mods ++ l } { v with A4 := A, c4 := cap } := by
  have hk := kt_row hf hx hr (fun g hg => (h.r4.ownb g hg).2)
  exact ⟨h.r1.keep hk (show ¬ (173 = 155) by decide) (fun _ _ h => h.keep hk (show ¬ (62 = 155) by decide)), h.r2.keep hk (show ¬ (173 = 155) by decide) (fun _ _ h => h.keep hk (show ¬ (62 = 155) by decide)), h.r3.keep hk (show ¬ (173 = 155) by decide) (fun _ _ h => h.keep hk (show ¬ (62 = 155) by decide)), hR, h.d12, h.d13, h.d23⟩
end
end Go.Proofs.YtddeplbgihcdkaaGreatDoor
end
section
namespace Go.Proofs.YtddeplbgihcdkaaGreatDoor
open Go.RowKit

section
variable {xb rb b D : Nat} {st : St}
/-- What items leaves. -/
def ItP (xb rb b D mb : Nat) (w0 : World) (r : MdlO × St) (e : Ending) (w' : World) : Prop := e = .returned (.tuple #[]) ∧ MRd w' xb rb b D r.2 ∧ MdM w' w0.heap.size mb r.1 ∧ Fx (X2 xb rb) w0 w'
set_option maxHeartbeats 4000000 in
set_option maxRecDepth 100000 in
theorem mitems_0 {mb : Nat} {m : MdlO} (w0 w : World) (h : MRd w xb rb b D st) (hm : MdM w w0.heap.size mb m) (hmb : w0.heap.size ≤ mb) (hbb : b ≤ w0.heap.size) (hx : xb < w0.heap.size) (hrb : rb < w0.heap.size) (hF : Fx (X2 xb rb) w0 w) (hlen : m.consts.length + st.len ≤ 200000) (hi : isT st.hd wConst = true) :
    Calls Tryz.prog 134 #[.pointer (some ⟨xb, 0, none⟩), .pointer (some ⟨mb, 0, none⟩)] w (ItP xb rb b D mb w0 ({ m with consts := m.consts ++ (constsL D st).1 }, (constsL D st).2)) := by
  have HI0 := Lib.hid (fun (W : World) (hW : MRd W xb rb b D st) => hW.is_ ⟨#[99, 111, 110, 115, 116]⟩)
  rw [show isT st.hd (⟨#[99, 111, 110, 115, 116]⟩ : ByteArray).data.toList = true from hi] at HI0
  have HM0 := Lib.hid h
  have HV0 := Lib.hid hm
  have HF0 := Lib.hid hF
  have c0 := h.c0
  have hx0 := h.ltx
  clear h hm hF hi
  go_enter Tryz.func134, Tryz.ntmps134
  go_wp2_with fail
  refine (HI0.out _ HM0.out).mono ?_
  rintro e u1 ⟨rfl, hb0⟩
  have HM1 := Lib.hid (HM0.out.below hb0)
  have HV1 := Lib.hid (HV0.out.below hb0)
  have HF1 := Lib.hid (HF0.out.on hb0)
  have c0 := HM1.out.c0
  have hx0 := HM1.out.ltx
  clear hb0 HM0 HV0 HF0
  obtain ⟨v, hB, hR⟩ := HV1.out
  have hbx := hB.cell 0
  simp only [List.getElem?_cons_zero, MdV.v1] at hbx
  have hbf := hB.frozen 0
  have hmbl := hB.lt
  have HRR := Lib.hid hR
  have HBB := Lib.hid hB
  have hsz := HF1.out.size
  have hrl : ∀ g, (Value.slice v.A1 m.consts.length v.c1).ownBlock = some g → g < u1.heap.size := hR.r1.ltb
  have hrt : ∀ g, (Value.slice v.A1 m.consts.length v.c1).ownBlock = some g → g ≠ mb := fun g hg e => by
    obtain ⟨_, cur, h1⟩ := hR.r1.ownb g hg
    exact absurd (blk_typ h1 (e ▸ hB)) (by decide)
  have HRL := Lib.hid hrl
  have HRT := Lib.hid hrt
  obtain ⟨N, hN⟩ : ∃ N, N = m.consts.length := ⟨_, rfl⟩
  have HNN := Lib.hid hN
  rw [← hN] at hbx
  have HSK := Lib.hid (mskips_any u1.drew HM1.out.drew ⟨#[99, 111, 110, 115, 116]⟩)
  clear hB hR hrl hrt hN
  go_wp2_with fail
  go_region_law (first
    | (go_simp
       go_at_call 176
       (with_reducible refine (HSK.out).mono ?_)
       rintro e w5 ⟨p, q, rfl, hcap, hp1, hq1, hp2, hq2, hb5⟩
       have hb5' : Below u1.heap.size u1 w5 := (Below.refl u1.heap.size u1).drew.trans hb5
       have hbx5 : w5.cell? ⟨mb, 0, none⟩ = some (.slice v.A1 N v.c1) := (hb5'.cell (p := ⟨mb, 0, none⟩) hmbl).trans hbx
       have hbf5 : w5.frozen? ⟨mb, 0, none⟩ = false := (hb5'.frozen (p := ⟨mb, 0, none⟩) hmbl).trans hbf
       have hmb5 : mb < w5.heap.size := Nat.lt_of_lt_of_le hmbl hb5'.size
       have HB5 := Lib.hid hb5'
       have HCA := Lib.hid hcap
       have hs5 := hb5'.size
       clear hb5 hb5' hcap)
    | (go_simp
       go_at_call 175
       rw [HNN.out]
       refine (ldefn_any (b1 := w0.heap.size) (row0 := (Value.slice v.A1 m.consts.length v.c1).ownBlock) (l0 := m.consts) w5 (HM1.out.below HB5.out) _ HCA.out ?k1 hbb ?k2 ⟨hx, hrb⟩ ?k3 rfl hlen).mono ?_
       case k1 => exact ⟨fun e => absurd (HRL.out p e) (by have : u1.drew.heap.size ≤ p := hp1; have e2 : u1.drew.heap.size = u1.heap.size := rfl; omega), fun e => absurd (HRL.out q e) (by have : u1.drew.heap.size ≤ q := hq1; have e2 : u1.drew.heap.size = u1.heap.size := rfl; omega)⟩
       case k2 => omega
       case k3 => exact (HRR.out.keep (Kt.below HB5.out)).r1
       rintro e w6 ⟨A, cap, rfl, hR6, hM6, hF6, hat6⟩
       have hF6' : Fx (X3 xb rb (v.v1 m).ownBlock) w5 w6 := hF6
       have hB6 := (HBB.out.below HB5.out).fx hF6' (fun hx3 => by
         rcases hx3 with e | e | e
         · omega
         · omega
         · exact HRT.out mb e rfl)
       have hbx6 := hB6.cell 0
       have hbf6 := hB6.frozen 0
       have hmb6 := hB6.lt
       have HB6 := Lib.hid hB6
       have HR6 := Lib.hid ((HRR.out.keep (Kt.below HB5.out)).put1 hx hrb hF6' hR6 hat6)
       have HM6 := Lib.hid hM6
       have HF6 := Lib.hid ((HF1.out.on HB5.out).row hF6' (fun g hg => (HRR.out.r1.ownb g hg).1))
       simp only [List.getElem?_cons_zero, MdV.v1] at hbx6
       clear hB6 hR6 hM6 hF6 hF6' hat6))
  all_goals go_wp2
  all_goals go_end0
  all_goals refine ⟨rfl, HM6.out.set HB6.out (by unfold RdT; decide) (by omega) _, ⟨{ v with A1 := A, c1 := cap }, ?_, HR6.out.keepM (Kt.mdl HB6.out)⟩, HF6.out.setCell (p := ⟨mb, 0, none⟩) (.inl hmb) _⟩
  all_goals rw [← List.length_append]
  all_goals exact HB6.out.set 0 _
set_option maxHeartbeats 4000000 in
set_option maxRecDepth 100000 in
theorem mitems_1 {mb : Nat} {m : MdlO} (w0 w : World) (h : MRd w xb rb b D st) (hm : MdM w w0.heap.size mb m) (hmb : w0.heap.size ≤ mb) (hbb : b ≤ w0.heap.size) (hx : xb < w0.heap.size) (hrb : rb < w0.heap.size) (hF : Fx (X2 xb rb) w0 w) (hlen : m.formulas.length + st.len ≤ 200000) (h0 : isT st.hd wConst = false) (hi : isT st.hd wFormula = true) :
    Calls Tryz.prog 134 #[.pointer (some ⟨xb, 0, none⟩), .pointer (some ⟨mb, 0, none⟩)] w (ItP xb rb b D mb w0 ({ m with formulas := m.formulas ++ (formsL D st).1 }, (formsL D st).2)) := by
  have HI0 := Lib.hid (fun (W : World) (hW : MRd W xb rb b D st) => hW.is_ ⟨#[99, 111, 110, 115, 116]⟩)
  rw [show isT st.hd (⟨#[99, 111, 110, 115, 116]⟩ : ByteArray).data.toList = false from h0] at HI0
  have HI1 := Lib.hid (fun (W : World) (hW : MRd W xb rb b D st) => hW.is_ ⟨#[102, 111, 114, 109, 117, 108, 97]⟩)
  rw [show isT st.hd (⟨#[102, 111, 114, 109, 117, 108, 97]⟩ : ByteArray).data.toList = true from hi] at HI1
  have HM0 := Lib.hid h
  have HV0 := Lib.hid hm
  have HF0 := Lib.hid hF
  have c0 := h.c0
  have hx0 := h.ltx
  clear h hm hF hi h0
  go_enter Tryz.func134, Tryz.ntmps134
  go_wp2_with fail
  refine (HI0.out _ HM0.out).mono ?_
  rintro e u1 ⟨rfl, hb0⟩
  have HM1 := Lib.hid (HM0.out.below hb0)
  have HV1 := Lib.hid (HV0.out.below hb0)
  have HF1 := Lib.hid (HF0.out.on hb0)
  have c0 := HM1.out.c0
  have hx0 := HM1.out.ltx
  clear hb0 HM0 HV0 HF0
  go_wp2_with fail
  refine (HI1.out _ HM1.out).mono ?_
  rintro e u2 ⟨rfl, hb1⟩
  have HM2 := Lib.hid (HM1.out.below hb1)
  have HV2 := Lib.hid (HV1.out.below hb1)
  have HF2 := Lib.hid (HF1.out.on hb1)
  have c0 := HM2.out.c0
  have hx0 := HM2.out.ltx
  clear hb1 HM1 HV1 HF1
  obtain ⟨v, hB, hR⟩ := HV2.out
  have hbx := hB.cell 1
  simp only [List.getElem?_cons_zero, List.getElem?_cons_succ, MdV.v2] at hbx
  have hbf := hB.frozen 1
  have hmbl := hB.lt
  have HRR := Lib.hid hR
  have HBB := Lib.hid hB
  have hsz := HF2.out.size
  have hrl : ∀ g, (Value.slice v.A2 m.formulas.length v.c2).ownBlock = some g → g < u2.heap.size := hR.r2.ltb
  have hrt : ∀ g, (Value.slice v.A2 m.formulas.length v.c2).ownBlock = some g → g ≠ mb := fun g hg e => by
    obtain ⟨_, cur, h1⟩ := hR.r2.ownb g hg
    exact absurd (blk_typ h1 (e ▸ hB)) (by decide)
  have HRL := Lib.hid hrl
  have HRT := Lib.hid hrt
  obtain ⟨N, hN⟩ : ∃ N, N = m.formulas.length := ⟨_, rfl⟩
  have HNN := Lib.hid hN
  rw [← hN] at hbx
  have HSK := Lib.hid (mskips_any u2.drew HM2.out.drew ⟨#[102, 111, 114, 109, 117, 108, 97]⟩)
  clear hB hR hrl hrt hN
  go_wp2_with fail
  go_region_law (first
    | (go_simp
       go_at_call 176
       (with_reducible refine (HSK.out).mono ?_)
       rintro e w5 ⟨p, q, rfl, hcap, hp1, hq1, hp2, hq2, hb5⟩
       have hb5' : Below u2.heap.size u2 w5 := (Below.refl u2.heap.size u2).drew.trans hb5
       have hbx5 : w5.cell? ⟨mb, 1, none⟩ = some (.slice v.A2 N v.c2) := (hb5'.cell (p := ⟨mb, 1, none⟩) hmbl).trans hbx
       have hbf5 : w5.frozen? ⟨mb, 1, none⟩ = false := (hb5'.frozen (p := ⟨mb, 1, none⟩) hmbl).trans hbf
       have hmb5 : mb < w5.heap.size := Nat.lt_of_lt_of_le hmbl hb5'.size
       have HB5 := Lib.hid hb5'
       have HCA := Lib.hid hcap
       have hs5 := hb5'.size
       clear hb5 hb5' hcap)
    | (go_simp
       go_at_call 175
       rw [HNN.out]
       refine (ldefn_any (b1 := w0.heap.size) (row0 := (Value.slice v.A2 m.formulas.length v.c2).ownBlock) (l0 := m.formulas) w5 (HM2.out.below HB5.out) _ HCA.out ?k1 hbb ?k2 ⟨hx, hrb⟩ ?k3 rfl hlen).mono ?_
       case k1 => exact ⟨fun e => absurd (HRL.out p e) (by have : u2.drew.heap.size ≤ p := hp1; have e2 : u2.drew.heap.size = u2.heap.size := rfl; omega), fun e => absurd (HRL.out q e) (by have : u2.drew.heap.size ≤ q := hq1; have e2 : u2.drew.heap.size = u2.heap.size := rfl; omega)⟩
       case k2 => omega
       case k3 => exact (HRR.out.keep (Kt.below HB5.out)).r2
       rintro e w6 ⟨A, cap, rfl, hR6, hM6, hF6, hat6⟩
       have hF6' : Fx (X3 xb rb (v.v2 m).ownBlock) w5 w6 := hF6
       have hB6 := (HBB.out.below HB5.out).fx hF6' (fun hx3 => by
         rcases hx3 with e | e | e
         · omega
         · omega
         · exact HRT.out mb e rfl)
       have hbx6 := hB6.cell 1
       have hbf6 := hB6.frozen 1
       have hmb6 := hB6.lt
       have HB6 := Lib.hid hB6
       have HR6 := Lib.hid ((HRR.out.keep (Kt.below HB5.out)).put2 hx hrb hF6' hR6 hat6)
       have HM6 := Lib.hid hM6
       have HF6 := Lib.hid ((HF2.out.on HB5.out).row hF6' (fun g hg => (HRR.out.r2.ownb g hg).1))
       simp only [List.getElem?_cons_zero, List.getElem?_cons_succ, MdV.v2] at hbx6
       clear hB6 hR6 hM6 hF6 hF6' hat6))
  all_goals go_wp2
  all_goals go_end0
  all_goals refine ⟨rfl, HM6.out.set HB6.out (by unfold RdT; decide) (by omega) _, ⟨{ v with A2 := A, c2 := cap }, ?_, HR6.out.keepM (Kt.mdl HB6.out)⟩, HF6.out.setCell (p := ⟨mb, 1, none⟩) (.inl hmb) _⟩
  all_goals rw [← List.length_append]
  all_goals exact HB6.out.set 1 _
set_option maxHeartbeats 4000000 in
set_option maxRecDepth 100000 in
theorem mitems_2 {mb : Nat} {m : MdlO} (w0 w : World) (h : MRd w xb rb b D st) (hm : MdM w w0.heap.size mb m) (hmb : w0.heap.size ≤ mb) (hbb : b ≤ w0.heap.size) (hx : xb < w0.heap.size) (hrb : rb < w0.heap.size) (hF : Fx (X2 xb rb) w0 w) (hlen : m.labels.length + st.len ≤ 200000) (h0 : isT st.hd wConst = false) (h1 : isT st.hd wFormula = false) (hi : isT st.hd wLabel = true) :
    Calls Tryz.prog 134 #[.pointer (some ⟨xb, 0, none⟩), .pointer (some ⟨mb, 0, none⟩)] w (ItP xb rb b D mb w0 ({ m with labels := m.labels ++ (lablsL D st).1 }, (lablsL D st).2)) := by
  have HI0 := Lib.hid (fun (W : World) (hW : MRd W xb rb b D st) => hW.is_ ⟨#[99, 111, 110, 115, 116]⟩)
  rw [show isT st.hd (⟨#[99, 111, 110, 115, 116]⟩ : ByteArray).data.toList = false from h0] at HI0
  have HI1 := Lib.hid (fun (W : World) (hW : MRd W xb rb b D st) => hW.is_ ⟨#[102, 111, 114, 109, 117, 108, 97]⟩)
  rw [show isT st.hd (⟨#[102, 111, 114, 109, 117, 108, 97]⟩ : ByteArray).data.toList = false from h1] at HI1
  have HI2 := Lib.hid (fun (W : World) (hW : MRd W xb rb b D st) => hW.is_ ⟨#[108, 97, 98, 101, 108]⟩)
  rw [show isT st.hd (⟨#[108, 97, 98, 101, 108]⟩ : ByteArray).data.toList = true from hi] at HI2
  have HM0 := Lib.hid h
  have HV0 := Lib.hid hm
  have HF0 := Lib.hid hF
  have c0 := h.c0
  have hx0 := h.ltx
  clear h hm hF hi h0 h1
  go_enter Tryz.func134, Tryz.ntmps134
  go_wp2_with fail
  refine (HI0.out _ HM0.out).mono ?_
  rintro e u1 ⟨rfl, hb0⟩
  have HM1 := Lib.hid (HM0.out.below hb0)
  have HV1 := Lib.hid (HV0.out.below hb0)
  have HF1 := Lib.hid (HF0.out.on hb0)
  have c0 := HM1.out.c0
  have hx0 := HM1.out.ltx
  clear hb0 HM0 HV0 HF0
  go_wp2_with fail
  refine (HI1.out _ HM1.out).mono ?_
  rintro e u2 ⟨rfl, hb1⟩
  have HM2 := Lib.hid (HM1.out.below hb1)
  have HV2 := Lib.hid (HV1.out.below hb1)
  have HF2 := Lib.hid (HF1.out.on hb1)
  have c0 := HM2.out.c0
  have hx0 := HM2.out.ltx
  clear hb1 HM1 HV1 HF1
  go_wp2_with fail
  refine (HI2.out _ HM2.out).mono ?_
  rintro e u3 ⟨rfl, hb2⟩
  have HM3 := Lib.hid (HM2.out.below hb2)
  have HV3 := Lib.hid (HV2.out.below hb2)
  have HF3 := Lib.hid (HF2.out.on hb2)
  have c0 := HM3.out.c0
  have hx0 := HM3.out.ltx
  clear hb2 HM2 HV2 HF2
  obtain ⟨v, hB, hR⟩ := HV3.out
  have hbx := hB.cell 2
  simp only [List.getElem?_cons_zero, List.getElem?_cons_succ, MdV.v3] at hbx
  have hbf := hB.frozen 2
  have hmbl := hB.lt
  have HRR := Lib.hid hR
  have HBB := Lib.hid hB
  have hsz := HF3.out.size
  have hrl : ∀ g, (Value.slice v.A3 m.labels.length v.c3).ownBlock = some g → g < u3.heap.size := hR.r3.ltb
  have hrt : ∀ g, (Value.slice v.A3 m.labels.length v.c3).ownBlock = some g → g ≠ mb := fun g hg e => by
    obtain ⟨_, cur, h1⟩ := hR.r3.ownb g hg
    exact absurd (blk_typ h1 (e ▸ hB)) (by decide)
  have HRL := Lib.hid hrl
  have HRT := Lib.hid hrt
  obtain ⟨N, hN⟩ : ∃ N, N = m.labels.length := ⟨_, rfl⟩
  have HNN := Lib.hid hN
  rw [← hN] at hbx
  have HSK := Lib.hid (mskips_any u3.drew HM3.out.drew ⟨#[108, 97, 98, 101, 108]⟩)
  clear hB hR hrl hrt hN
  go_wp2_with fail
  go_region_law (first
    | (go_simp
       go_at_call 176
       (with_reducible refine (HSK.out).mono ?_)
       rintro e w5 ⟨p, q, rfl, hcap, hp1, hq1, hp2, hq2, hb5⟩
       have hb5' : Below u3.heap.size u3 w5 := (Below.refl u3.heap.size u3).drew.trans hb5
       have hbx5 : w5.cell? ⟨mb, 2, none⟩ = some (.slice v.A3 N v.c3) := (hb5'.cell (p := ⟨mb, 2, none⟩) hmbl).trans hbx
       have hbf5 : w5.frozen? ⟨mb, 2, none⟩ = false := (hb5'.frozen (p := ⟨mb, 2, none⟩) hmbl).trans hbf
       have hmb5 : mb < w5.heap.size := Nat.lt_of_lt_of_le hmbl hb5'.size
       have HB5 := Lib.hid hb5'
       have HCA := Lib.hid hcap
       have hs5 := hb5'.size
       clear hb5 hb5' hcap)
    | (go_simp
       go_at_call 175
       rw [HNN.out]
       refine (llabl_any (b1 := w0.heap.size) (row0 := (Value.slice v.A3 m.labels.length v.c3).ownBlock) (l0 := m.labels) w5 (HM3.out.below HB5.out) _ HCA.out ?k1 hbb ?k2 ⟨hx, hrb⟩ ?k3 rfl hlen).mono ?_
       case k1 => exact ⟨fun e => absurd (HRL.out p e) (by have : u3.drew.heap.size ≤ p := hp1; have e2 : u3.drew.heap.size = u3.heap.size := rfl; omega), fun e => absurd (HRL.out q e) (by have : u3.drew.heap.size ≤ q := hq1; have e2 : u3.drew.heap.size = u3.heap.size := rfl; omega)⟩
       case k2 => omega
       case k3 => exact (HRR.out.keep (Kt.below HB5.out)).r3
       rintro e w6 ⟨A, cap, rfl, hR6, hM6, hF6, hat6⟩
       have hF6' : Fx (X3 xb rb (v.v3 m).ownBlock) w5 w6 := hF6
       have hB6 := (HBB.out.below HB5.out).fx hF6' (fun hx3 => by
         rcases hx3 with e | e | e
         · omega
         · omega
         · exact HRT.out mb e rfl)
       have hbx6 := hB6.cell 2
       have hbf6 := hB6.frozen 2
       have hmb6 := hB6.lt
       have HB6 := Lib.hid hB6
       have HR6 := Lib.hid ((HRR.out.keep (Kt.below HB5.out)).put3 hx hrb hF6' hR6 hat6)
       have HM6 := Lib.hid hM6
       have HF6 := Lib.hid ((HF3.out.on HB5.out).row hF6' (fun g hg => (HRR.out.r3.ownb g hg).1))
       simp only [List.getElem?_cons_zero, List.getElem?_cons_succ, MdV.v3] at hbx6
       clear hB6 hR6 hM6 hF6 hF6' hat6))
  all_goals go_wp2
  all_goals go_end0
  all_goals refine ⟨rfl, HM6.out.set HB6.out (by unfold RdT; decide) (by omega) _, ⟨{ v with A3 := A, c3 := cap }, ?_, HR6.out.keepM (Kt.mdl HB6.out)⟩, HF6.out.setCell (p := ⟨mb, 2, none⟩) (.inl hmb) _⟩
  all_goals rw [← List.length_append]
  all_goals exact HB6.out.set 2 _
end
end Go.Proofs.YtddeplbgihcdkaaGreatDoor
end
section
namespace Go.Proofs.YtddeplbgihcdkaaGreatDoor
open Go.RowKit

section
variable {xb rb b D : Nat} {st : St}
set_option maxHeartbeats 4000000 in
set_option maxRecDepth 100000 in
theorem mitems_3 {mb : Nat} {m : MdlO} (w0 w : World) (h : MRd w xb rb b D st) (hm : MdM w w0.heap.size mb m) (hmb : w0.heap.size ≤ mb) (hbb : b ≤ w0.heap.size) (hx : xb < w0.heap.size) (hrb : rb < w0.heap.size) (hF : Fx (X2 xb rb) w0 w) (hlen : m.mods.length + st.len ≤ 200000) (h0 : isT st.hd wConst = false) (h1 : isT st.hd wFormula = false) (h2 : isT st.hd wLabel = false) (hi : isT st.hd wModule = true) :
    Calls Tryz.prog 134 #[.pointer (some ⟨xb, 0, none⟩), .pointer (some ⟨mb, 0, none⟩)] w (ItP xb rb b D mb w0 ({ m with mods := m.mods ++ (modsL D st).1 }, (modsL D st).2)) := by
  have HI0 := Lib.hid (fun (W : World) (hW : MRd W xb rb b D st) => hW.is_ ⟨#[99, 111, 110, 115, 116]⟩)
  rw [show isT st.hd (⟨#[99, 111, 110, 115, 116]⟩ : ByteArray).data.toList = false from h0] at HI0
  have HI1 := Lib.hid (fun (W : World) (hW : MRd W xb rb b D st) => hW.is_ ⟨#[102, 111, 114, 109, 117, 108, 97]⟩)
  rw [show isT st.hd (⟨#[102, 111, 114, 109, 117, 108, 97]⟩ : ByteArray).data.toList = false from h1] at HI1
  have HI2 := Lib.hid (fun (W : World) (hW : MRd W xb rb b D st) => hW.is_ ⟨#[108, 97, 98, 101, 108]⟩)
  rw [show isT st.hd (⟨#[108, 97, 98, 101, 108]⟩ : ByteArray).data.toList = false from h2] at HI2
  have HI3 := Lib.hid (fun (W : World) (hW : MRd W xb rb b D st) => hW.is_ ⟨#[109, 111, 100, 117, 108, 101]⟩)
  rw [show isT st.hd (⟨#[109, 111, 100, 117, 108, 101]⟩ : ByteArray).data.toList = true from hi] at HI3
  have HM0 := Lib.hid h
  have HV0 := Lib.hid hm
  have HF0 := Lib.hid hF
  have c0 := h.c0
  have hx0 := h.ltx
  clear h hm hF hi h0 h1 h2
  go_enter Tryz.func134, Tryz.ntmps134
  go_wp2_with fail
  refine (HI0.out _ HM0.out).mono ?_
  rintro e u1 ⟨rfl, hb0⟩
  have HM1 := Lib.hid (HM0.out.below hb0)
  have HV1 := Lib.hid (HV0.out.below hb0)
  have HF1 := Lib.hid (HF0.out.on hb0)
  have c0 := HM1.out.c0
  have hx0 := HM1.out.ltx
  clear hb0 HM0 HV0 HF0
  go_wp2_with fail
  refine (HI1.out _ HM1.out).mono ?_
  rintro e u2 ⟨rfl, hb1⟩
  have HM2 := Lib.hid (HM1.out.below hb1)
  have HV2 := Lib.hid (HV1.out.below hb1)
  have HF2 := Lib.hid (HF1.out.on hb1)
  have c0 := HM2.out.c0
  have hx0 := HM2.out.ltx
  clear hb1 HM1 HV1 HF1
  go_wp2_with fail
  refine (HI2.out _ HM2.out).mono ?_
  rintro e u3 ⟨rfl, hb2⟩
  have HM3 := Lib.hid (HM2.out.below hb2)
  have HV3 := Lib.hid (HV2.out.below hb2)
  have HF3 := Lib.hid (HF2.out.on hb2)
  have c0 := HM3.out.c0
  have hx0 := HM3.out.ltx
  clear hb2 HM2 HV2 HF2
  go_wp2_with fail
  refine (HI3.out _ HM3.out).mono ?_
  rintro e u4 ⟨rfl, hb3⟩
  have HM4 := Lib.hid (HM3.out.below hb3)
  have HV4 := Lib.hid (HV3.out.below hb3)
  have HF4 := Lib.hid (HF3.out.on hb3)
  have c0 := HM4.out.c0
  have hx0 := HM4.out.ltx
  clear hb3 HM3 HV3 HF3
  obtain ⟨v, hB, hR⟩ := HV4.out
  have hbx := hB.cell 3
  simp only [List.getElem?_cons_zero, List.getElem?_cons_succ, MdV.v4] at hbx
  have hbf := hB.frozen 3
  have hmbl := hB.lt
  have HRR := Lib.hid hR
  have HBB := Lib.hid hB
  have hsz := HF4.out.size
  have hrl : ∀ g, (Value.slice v.A4 m.mods.length v.c4).ownBlock = some g → g < u4.heap.size := hR.r4.ltb
  have hrt : ∀ g, (Value.slice v.A4 m.mods.length v.c4).ownBlock = some g → g ≠ mb := fun g hg e => by
    obtain ⟨_, cur, h1⟩ := hR.r4.ownb g hg
    exact absurd (blk_typ h1 (e ▸ hB)) (by decide)
  have HRL := Lib.hid hrl
  have HRT := Lib.hid hrt
  obtain ⟨N, hN⟩ : ∃ N, N = m.mods.length := ⟨_, rfl⟩
  have HNN := Lib.hid hN
  rw [← hN] at hbx
  have HSK := Lib.hid (mskips_any u4.drew HM4.out.drew ⟨#[109, 111, 100, 117, 108, 101]⟩)
  clear hB hR hrl hrt hN
  go_wp2_with fail
  go_region_law (first
    | (go_simp
       go_at_call 176
       (with_reducible refine (HSK.out).mono ?_)
       rintro e w5 ⟨p, q, rfl, hcap, hp1, hq1, hp2, hq2, hb5⟩
       have hb5' : Below u4.heap.size u4 w5 := (Below.refl u4.heap.size u4).drew.trans hb5
       have hbx5 : w5.cell? ⟨mb, 3, none⟩ = some (.slice v.A4 N v.c4) := (hb5'.cell (p := ⟨mb, 3, none⟩) hmbl).trans hbx
       have hbf5 : w5.frozen? ⟨mb, 3, none⟩ = false := (hb5'.frozen (p := ⟨mb, 3, none⟩) hmbl).trans hbf
       have hmb5 : mb < w5.heap.size := Nat.lt_of_lt_of_le hmbl hb5'.size
       have HB5 := Lib.hid hb5'
       have HCA := Lib.hid hcap
       have hs5 := hb5'.size
       clear hb5 hb5' hcap)
    | (go_simp
       go_at_call 179
       rw [HNN.out]
       refine (lmod_any (b1 := w0.heap.size) (row0 := (Value.slice v.A4 m.mods.length v.c4).ownBlock) (l0 := m.mods) w5 (HM4.out.below HB5.out) _ HCA.out ?k1 hbb ?k2 ⟨hx, hrb⟩ ?k3 rfl hlen).mono ?_
       case k1 => exact ⟨fun e => absurd (HRL.out p e) (by have : u4.drew.heap.size ≤ p := hp1; have e2 : u4.drew.heap.size = u4.heap.size := rfl; omega), fun e => absurd (HRL.out q e) (by have : u4.drew.heap.size ≤ q := hq1; have e2 : u4.drew.heap.size = u4.heap.size := rfl; omega)⟩
       case k2 => omega
       case k3 => exact (HRR.out.keep (Kt.below HB5.out)).r4
       rintro e w6 ⟨A, cap, rfl, hR6, hM6, hF6, hat6⟩
       have hF6' : Fx (X3 xb rb (v.v4 m).ownBlock) w5 w6 := hF6
       have hB6 := (HBB.out.below HB5.out).fx hF6' (fun hx3 => by
         rcases hx3 with e | e | e
         · omega
         · omega
         · exact HRT.out mb e rfl)
       have hbx6 := hB6.cell 3
       have hbf6 := hB6.frozen 3
       have hmb6 := hB6.lt
       have HB6 := Lib.hid hB6
       have HR6 := Lib.hid ((HRR.out.keep (Kt.below HB5.out)).put4 hx hrb hF6' hR6)
       have HM6 := Lib.hid hM6
       have HF6 := Lib.hid ((HF4.out.on HB5.out).row hF6' (fun g hg => (HRR.out.r4.ownb g hg).1))
       simp only [List.getElem?_cons_zero, List.getElem?_cons_succ, MdV.v4] at hbx6
       clear hB6 hR6 hM6 hF6 hF6' hat6))
  all_goals go_wp2
  all_goals go_end0
  all_goals refine ⟨rfl, HM6.out.set HB6.out (by unfold RdT; decide) (by omega) _, ⟨{ v with A4 := A, c4 := cap }, ?_, HR6.out.keepM (Kt.mdl HB6.out)⟩, HF6.out.setCell (p := ⟨mb, 3, none⟩) (.inl hmb) _⟩
  all_goals rw [← List.length_append]
  all_goals exact HB6.out.set 3 _
set_option maxHeartbeats 2000000 in
theorem mitems_no {mb : Nat} {m : MdlO} (w0 w : World) (h : MRd w xb rb b D st) (hm : MdM w w0.heap.size mb m) (hmb : w0.heap.size ≤ mb) (hx : xb < w0.heap.size) (hrb : rb < w0.heap.size) (hF : Fx (X2 xb rb) w0 w) (h0 : isT st.hd wConst = false) (h1 : isT st.hd wFormula = false) (h2 : isT st.hd wLabel = false) (h3 : isT st.hd wModule = false) :
    Calls Tryz.prog 134 #[.pointer (some ⟨xb, 0, none⟩), .pointer (some ⟨mb, 0, none⟩)] w (ItP xb rb b D mb w0 (m, st.fail 20)) := by
  have HI0 := Lib.hid (fun (W : World) (hW : MRd W xb rb b D st) => hW.is_ ⟨#[99, 111, 110, 115, 116]⟩)
  rw [show isT st.hd (⟨#[99, 111, 110, 115, 116]⟩ : ByteArray).data.toList = false from h0] at HI0
  have HI1 := Lib.hid (fun (W : World) (hW : MRd W xb rb b D st) => hW.is_ ⟨#[102, 111, 114, 109, 117, 108, 97]⟩)
  rw [show isT st.hd (⟨#[102, 111, 114, 109, 117, 108, 97]⟩ : ByteArray).data.toList = false from h1] at HI1
  have HI2 := Lib.hid (fun (W : World) (hW : MRd W xb rb b D st) => hW.is_ ⟨#[108, 97, 98, 101, 108]⟩)
  rw [show isT st.hd (⟨#[108, 97, 98, 101, 108]⟩ : ByteArray).data.toList = false from h2] at HI2
  have HI3 := Lib.hid (fun (W : World) (hW : MRd W xb rb b D st) => hW.is_ ⟨#[109, 111, 100, 117, 108, 101]⟩)
  rw [show isT st.hd (⟨#[109, 111, 100, 117, 108, 101]⟩ : ByteArray).data.toList = false from h3] at HI3
  have HM0 := Lib.hid h
  have HV0 := Lib.hid hm
  have HF0 := Lib.hid hF
  have c0 := h.c0
  have hx0 := h.ltx
  clear h hm hF h0 h1 h2 h3
  go_enter Tryz.func134, Tryz.ntmps134
  go_wp2_with fail
  refine (HI0.out _ HM0.out).mono ?_
  rintro e u1 ⟨rfl, hb0⟩
  have HM1 := Lib.hid (HM0.out.below hb0)
  have HV1 := Lib.hid (HV0.out.below hb0)
  have HF1 := Lib.hid (HF0.out.on hb0)
  have c0 := HM1.out.c0
  have hx0 := HM1.out.ltx
  clear hb0 HM0 HV0 HF0
  go_wp2_with fail
  refine (HI1.out _ HM1.out).mono ?_
  rintro e u2 ⟨rfl, hb1⟩
  have HM2 := Lib.hid (HM1.out.below hb1)
  have HV2 := Lib.hid (HV1.out.below hb1)
  have HF2 := Lib.hid (HF1.out.on hb1)
  have c0 := HM2.out.c0
  have hx0 := HM2.out.ltx
  clear hb1 HM1 HV1 HF1
  go_wp2_with fail
  refine (HI2.out _ HM2.out).mono ?_
  rintro e u3 ⟨rfl, hb2⟩
  have HM3 := Lib.hid (HM2.out.below hb2)
  have HV3 := Lib.hid (HV2.out.below hb2)
  have HF3 := Lib.hid (HF2.out.on hb2)
  have c0 := HM3.out.c0
  have hx0 := HM3.out.ltx
  clear hb2 HM2 HV2 HF2
  go_wp2_with fail
  refine (HI3.out _ HM3.out).mono ?_
  rintro e u4 ⟨rfl, hb3⟩
  have HM4 := Lib.hid (HM3.out.below hb3)
  have HV4 := Lib.hid (HV3.out.below hb3)
  have HF4 := Lib.hid (HF3.out.on hb3)
  have c0 := HM4.out.c0
  have hx0 := HM4.out.ltx
  clear hb3 HM3 HV3 HF3
  go_wp2_with fail
  refine (mrefuse_any u4 HM4.out).mono ?_
  rintro e w5 ⟨rfl, hM5, hF5⟩
  have HV5 := Lib.hid (show MdM w5 w0.heap.size mb m by
    obtain ⟨v, hB, hR⟩ := HV4.out
    exact ⟨v, hB.fx hF5 (fun hx2 => by have := x2_lt hx2 hx hrb; omega), hR.keep (Kt.fx hF5 (fun k hk => x2_lt hk hx hrb))⟩)
  have HF5 := Lib.hid (HF4.out.trans hF5)
  have HM5 := Lib.hid hM5
  clear hM5 hF5
  go_wp2
  go_end0
  exact ⟨rfl, HM5.out, HV5.out, HF5.out⟩
theorem mitems_any {mb : Nat} {m : MdlO} (w0 w : World) (h : MRd w xb rb b D st) (hm : MdM w w0.heap.size mb m) (hmb : w0.heap.size ≤ mb) (hbb : b ≤ w0.heap.size) (hx : xb < w0.heap.size) (hrb : rb < w0.heap.size) (hF : Fx (X2 xb rb) w0 w) (hlen : m.consts.length + m.formulas.length + m.labels.length + m.mods.length + st.len ≤ 200000) :
    Calls Tryz.prog 134 #[.pointer (some ⟨xb, 0, none⟩), .pointer (some ⟨mb, 0, none⟩)] w (ItP xb rb b D mb w0 (st.items D m)) := by
  unfold St.items
  split
  · next h0 => exact mitems_0 w0 w h hm hmb hbb hx hrb hF (by omega) h0
  · next h0 =>
    have h0 : isT st.hd wConst = false := by simpa using h0
    split
    · next h1 => exact mitems_1 w0 w h hm hmb hbb hx hrb hF (by omega) h0 h1
    · next h1 =>
      have h1 : isT st.hd wFormula = false := by simpa using h1
      split
      · next h2 => exact mitems_2 w0 w h hm hmb hbb hx hrb hF (by omega) h0 h1 h2
      · next h2 =>
        have h2 : isT st.hd wLabel = false := by simpa using h2
        split
        · next h3 => exact mitems_3 w0 w h hm hmb hbb hx hrb hF (by omega) h0 h1 h2 h3
        · next h3 => exact mitems_no w0 w h hm hmb hx hrb hF h0 h1 h2 (by simpa using h3)
end
end Go.Proofs.YtddeplbgihcdkaaGreatDoor
end
section
namespace Go.Proofs.YtddeplbgihcdkaaGreatDoor
open Go.RowKit

theorem listF_len {α : Type} {p : Tok → Bool} {rd : St → α × St} (hd : Dec p rd) : ∀ (f : Nat) (st : St), (listF p rd f st).1.length + (listF p rd f st).2.len ≤ st.len
  | 0, st => by simp [listF]
  | f + 1, st => by
    simp only [listF]
    split
    · next hp =>
      have h1 := (hd st hp).1
      have h2 := listF_len hd f (rd st).2
      simp only [List.length_cons]
      omega
    · simp
theorem list_len {α : Type} {p : Tok → Bool} {rd : St → α × St} (hd : Dec p rd) (st : St) : (st.list p rd).1.length + (st.list p rd).2.len ≤ st.len := listF_len hd _ st
def MdlO.cnt (m : MdlO) : Nat := m.consts.length + m.formulas.length + m.labels.length + m.mods.length
theorem items_cnt (D : Nat) (m : MdlO) (st : St) : (st.items D m).1.cnt + (st.items D m).2.len ≤ m.cnt + st.len := by
  unfold St.items
  split
  · have := list_len (dec_defn D wConst) st
    simp only [MdlO.cnt, List.length_append, constsL]
    omega
  · split
    · have := list_len (dec_defn D wFormula) st
      simp only [MdlO.cnt, List.length_append, formsL]
      omega
    · split
      · have := list_len (dec_labl D wLabel) st
        simp only [MdlO.cnt, List.length_append, lablsL]
        omega
      · split
        · have := list_len (dec_modl D wModule) st
          simp only [MdlO.cnt, List.length_append, modsL]
          omega
        · have := (fail_le (c := 20) st).1
          simp only
          omega
section
variable {xb rb b D : Nat} {st : St}
/-- What model tells. -/
def MoP (xb rb b D : Nat) (r : MdlO × St) (w : World) (e : Ending) (w' : World) : Prop :=
  ∃ v : MdV, e = .returned (.agg #[v.v1 r.1, v.v2 r.1, v.v3 r.1, v.v4 r.1]) ∧ MdR w' (w.heap.size + 1) r.1 v ∧ MRd w' xb rb b D r.2 ∧ Fx (X2 xb rb) w w'
structure MoR (xb rb b D : Nat) (tot : MdlO × St) (w0 : World) (m1 : MdlO) (st1 : St) (wr : World) : Prop where
  mr : MRd wr xb rb b D st1
  md : MdM wr w0.heap.size w0.heap.size m1
  tot : st1.mdlOn D m1 = tot
  fx : Fx (X2 xb rb) w0 wr
  len : m1.cnt + st1.len ≤ 65537
def MoRel (xb rb b D : Nat) (tot : MdlO × St) (w0 : World) (gk : Nat) (wr : World) : Prop := ∃ m1 st1, gk = st1.len ∧ MoR xb rb b D tot w0 m1 st1 wr
theorem md0 (w : World) (b1 mb : Nat) (h : Bx w mb 81 [.slice none 0 0, .slice none 0 0, .slice none 0 0, .slice none 0 0]) : MdM w b1 mb mdl0 :=
  ⟨⟨none, 0, none, 0, none, 0, none, 0⟩, h, Row.nil _ _ _ _ _, Row.nil _ _ _ _ _, Row.nil _ _ _ _ _, Row.nil _ _ _ _ _, (fun _ h => by cases h), (fun _ h => by cases h), (fun _ h => by cases h)⟩
set_option maxHeartbeats 4000000 in
theorem mmodel_any (w : World) (h : MRd w xb rb b D st) : Calls Tryz.prog 80 #[.pointer (some ⟨xb, 0, none⟩)] w (MoP xb rb b D (st.mdl D) w) := by
  have hx := h.ltx
  have hrb := h.hr
  have HN := Lib.hid h.nx
  have hbl := h.ble
  have H := Lib.hid h
  clear h
  have hf0 := field0
  have hf1 := field1
  have hf2 := field2
  obtain ⟨tot, htot⟩ : ∃ tot, tot = st.mdl D := ⟨_, rfl⟩
  rw [← htot]
  have HTT := Lib.hid htot
  clear htot
  obtain ⟨w0, hw0⟩ : ∃ w0, w0 = w.alloc (.cells #[.slice none 0 0, .slice none 0 0, .slice none 0 0, .slice none 0 0] 81) := ⟨_, rfl⟩
  have hs0 : w0.heap.size = w.heap.size + 1 := by rw [hw0]; simp
  have HB0 := Lib.hid (show Bx w0 w.heap.size 81 [.slice none 0 0, .slice none 0 0, .slice none 0 0, .slice none 0 0] by rw [hw0]; exact Bx.new _ _ _)
  have HF00 := Lib.hid (show Fx (X2 xb rb) w w0 by rw [hw0]; exact (Fx.refl _ _).alloc _)
  have HM00 := Lib.hid (show MRd w0 xb rb b D st by rw [hw0]; exact H.out.alloc _)
  go_enter Tryz.func80, Tryz.ntmps80
  go_wp2_with fail
  refine calls_gen (P := fun W => MRd W xb rb b D st ∧ Bx W (w.heap.size + 1) 81 [.slice none 0 0, .slice none 0 0, .slice none 0 0, .slice none 0 0] ∧ Fx (X2 xb rb) w0 W) ⟨?_, ?_, ?_⟩ ?_
  · exact (H.out.alloc _).alloc _
  · exact Bx.newAt (by simp) _ _
  · rw [hw0]; exact (Fx.refl _ _).alloc _
  rintro W ⟨hM, hB, hF⟩
  refine (mwant_any W hM _).mono ?_
  rintro e w1 ⟨rfl, hM1, hF1⟩
  have HR := Lib.hid (show MoRel xb rb b D tot w0 (st.want wMdp).len w1 from ⟨mdl0, st.want wMdp, rfl, hM1, md0 _ _ _ (by rw [hs0]; exact hB.fx hF1 (HN.out _ (by omega))), HTT.out.symm, hF.trans hF1, by have h1 : (st.want wMdp).len ≤ 65537 := MRd.len hM1; simpa [MdlO.cnt, mdl0] using h1⟩)
  clear hM hB hF hM1 hF1 H HM00
  clear hw0
  go_wp2
  go_loopg [] (st.want wMdp).len (fun gk wr => MoRel xb rb b D tot w0 gk wr)
  case atStart => exact HR.out
  case round =>
    clear HR
    obtain ⟨m1, st1, rfl, hR⟩ := hrel
    have HR := Lib.hid hR
    have HP := Lib.hid hR.mr.peek
    have c0 := hR.mr.c0
    have hx0 := hR.mr.ltx
    clear hR
    by_cases hk : st1.hd.kind = 0
    · have g1 : (((st1.hd.kind : Nat) : Int) != 0) = false := by rw [hk]; rfl
      have HT := Lib.hid (show (m1, st1) = tot by rw [← HR.out.tot, mdl_end D hk])
      clear hk
      go_wp2_with fail
      with_reducible refine (HP.out).mono ?_
      rintro e w3 ⟨rfl, hb3⟩
      obtain ⟨v, hB, hMd⟩ := HR.out.md.below hb3
      have hC := HB0.out.fx (HR.out.fx.on hb3) (HN.out _ (Nat.le_refl _))
      have HMd := Lib.hid hMd
      have HM3 := Lib.hid (HR.out.mr.below hb3)
      have HF3 := Lib.hid (HF00.out.trans (HR.out.fx.on hb3))
      rw [hs0] at hB
      have a0 := hB.cell 0
      have a1 := hB.cell 1
      have a2 := hB.cell 2
      have a3 := hB.cell 3
      simp only [List.getElem?_cons_zero, List.getElem?_cons_succ] at a0 a1 a2 a3
      have d0 := hC.cell 0
      have d1 := hC.cell 1
      have d2 := hC.cell 2
      have d3 := hC.cell 3
      simp only [List.getElem?_cons_zero, List.getElem?_cons_succ] at d0 d1 d2 d3
      have y0 := hC.frozen 0
      have y1 := hC.frozen 1
      have y2 := hC.frozen 2
      have y3 := hC.frozen 3
      simp only [MdV.v1, MdV.v2, MdV.v3, MdV.v4] at a0 a1 a2 a3
      have hl1 := hB.lt
      have hl2 := hC.lt
      have HC := Lib.hid hC
      clear hb3 hB hC hMd
      go_wp2
      have hBf := HC.out.setL (i := 0) (us := [v.v1 m1, v.v2 m1, v.v3 m1, v.v4 m1])
      simp only [setL, setLs, List.set_cons_zero, List.set_cons_succ] at hBf
      simp only [MdV.v1, MdV.v2, MdV.v3, MdV.v4] at hBf
      rw [← HT.out]
      refine bodyPost_ret (v := .agg #[v.v1 m1, v.v2 m1, v.v3 m1, v.v4 m1]) (by simp [results, Tryz.results80, go_sem, hBf.cell, MdV.v1, MdV.v2, MdV.v3, MdV.v4]) rfl ⟨v, rfl, ?_, ?_, ?_⟩
      · have hk : Kt (w.heap.size + 1) E0 w3 (setL w3 w.heap.size 0 [v.v1 m1, v.v2 m1, v.v3 m1, v.v4 m1]) := Kt.setL (by omega)
        have hr := HMd.out
        rw [hs0] at hr
        exact hr.keep hk
      · exact MRd.setL (i := 0) (us := [v.v1 m1, v.v2 m1, v.v3 m1, v.v4 m1]) (by unfold RdT; decide) (by omega) HM3.out HC.out
      · exact Fx.setL (i := 0) (us := [v.v1 m1, v.v2 m1, v.v3 m1, v.v4 m1]) (.inl (Nat.le_refl _)) HF3.out
    · have g1 : (((st1.hd.kind : Nat) : Int) != 0) = true := by rw [bne_iff_ne]; omega
      have HT := Lib.hid (show (st1.items D m1).2.mdlOn D (st1.items D m1).1 = tot by rw [← HR.out.tot, mdl_go D hk])
      have HLT := Lib.hid ((items_le D m1 hk).2)
      have HCN := Lib.hid (items_cnt D m1 st1)
      clear hk
      go_wp2_with fail
      with_reducible refine (HP.out).mono ?_
      rintro e w3 ⟨rfl, hb3⟩
      have HM3 := Lib.hid (HR.out.mr.below hb3)
      have HMd := Lib.hid (HR.out.md.below hb3)
      have HF3 := Lib.hid (HR.out.fx.on hb3)
      have HL := Lib.hid HR.out.len
      clear hb3
      go_wp2_with fail
      rw [← hs0]
      refine (mitems_any w0 w3 HM3.out HMd.out (Nat.le_refl _) (by omega) (by omega) (by omega) HF3.out (by have := HL.out; unfold MdlO.cnt at this; omega)).mono ?_
      rintro e w4 ⟨rfl, hM4, hMd4, hF4⟩
      have HR4 := Lib.hid (show MoRel xb rb b D tot w0 (st1.items D m1).2.len w4 from ⟨_, _, rfl, hM4, hMd4, HT.out, hF4, by have := HL.out; have := HCN.out; omega⟩)
      clear hM4 hMd4 hF4
      go_wp2
      go_roundg (st1.items D m1).2.len
      case measure => exact HLT.out
      case rel => exact HR4.out
end
end Go.Proofs.YtddeplbgihcdkaaGreatDoor
end
section
namespace Go.Proofs.YtddeplbgihcdkaaGreatDoor
open Go.RowKit

/-- What Parse tells of a model. -/
def MQ (res : MP) (w : World) (e : Ending) (w' : World) : Prop :=
  match res with
  | .ok m => ∃ v : MdV, e = .returned (.tuple #[.agg #[v.v1 m, v.v2 m, v.v3 m, v.v4 m], .nilIface]) ∧ MdR w' w.heap.size m v ∧ Below w.heap.size w w'
  | .er c q => ∃ eb, e = .returned (.tuple #[.agg #[.slice none 0 0, .slice none 0 0, .slice none 0 0, .slice none 0 0], .iface 116 (.pointer (some ⟨eb, 0, none⟩))]) ∧ AtE w' eb q c ∧ Below w.heap.size w w'
theorem mparse_bad (s : ByteArray) (n : Int) (w : World) (hn : n < 1 ∨ 64 < n) : Calls Tryz.prog 44 #[.string s, .int .i64 n] w fun e w' => e = .returned (.tuple #[.agg #[.slice none 0 0, .slice none 0 0, .slice none 0 0, .slice none 0 0], .iface 113 (.int .i64 1)]) ∧ Below w.heap.size w w' := by
  rcases hn with hn | hn
  · have g1 : decide (n < 1) = true := by simp; omega
    clear hn
    go_enter Tryz.func44, Tryz.ntmps44
    go_wp2
    exact bodyPost_ret (v := .tuple #[.agg #[.slice none 0 0, .slice none 0 0, .slice none 0 0, .slice none 0 0], .iface 113 (.int .i64 1)]) (by simp [results, Tryz.results44, go_sem]) rfl ⟨rfl, (Below.refl _ _).alloc (Nat.le_refl _) _⟩
  · have g1 : decide (n < 1) = false := by simp; omega
    have g2 : decide (64 < n) = true := by simp; omega
    clear hn
    go_enter Tryz.func44, Tryz.ntmps44
    go_wp2
    exact bodyPost_ret (v := .tuple #[.agg #[.slice none 0 0, .slice none 0 0, .slice none 0 0, .slice none 0 0], .iface 113 (.int .i64 1)]) (by simp [results, Tryz.results44, go_sem]) rfl ⟨rfl, (Below.refl _ _).alloc (Nat.le_refl _) _⟩
theorem MdR.mono {w : World} {b b1 : Nat} {m : MdlO} {v : MdV} (h : MdR w b1 m v) (hb : b ≤ b1) : MdR w b m v :=
  ⟨h.r1.mono hb (fun _ _ h => h.mono hb), h.r2.mono hb (fun _ _ h => h.mono hb), h.r3.mono hb (fun _ _ h => h.mono hb), h.r4.mono hb (fun _ _ h => h.mono hb), h.d12, h.d13, h.d23⟩
theorem Fx.belowOf {xb rb : Nat} {a w w' : World} (hf : Fx (X2 xb rb) w w') (h : Below a.heap.size a w) (h1 : a.heap.size ≤ xb) (h2 : a.heap.size ≤ rb) : Below a.heap.size a w' :=
  ⟨hf.os.trans h.os, hf.tape.trans h.tape, hf.output.trans h.output, Nat.le_trans h.size hf.size, fun k hk => (hf.block k (Nat.lt_of_lt_of_le hk h.size) (fun hx => by rcases hx with e | e <;> omega)).trans (h.block k hk)⟩
theorem AtE.farL {q' i : Nat} {us : List Value} {w : World} {eb : Nat} {p n : Int} (h : AtE w eb p n) (hne : eb ≠ q') : AtE (setL w q' i us) eb p n := h.keep (setL_heap hne us w i)
set_option maxHeartbeats 4000000 in
theorem mparse_any {s : ByteArray} {D : Nat} (w : World) (hG : GlobS w) (hs : s.size ≤ 65536) (h1 : 1 ≤ D) (h64 : D ≤ 64) : Calls Tryz.prog 44 #[.string s, .int .i64 (D : Int)] w (MQ (parseM D s.data.toList) w) := by
  have g1 : decide ((D : Int) < 1) = false := by simp; omega
  have g1' : decide (D < 1) = false := by simp; omega
  have g2 : decide (64 < (D : Int)) = false := by simp; omega
  have g2' : decide (64 < D) = false := by simp; omega
  have hlo : 3 < w.heap.size ∧ 0 < w.heap.size := by
    have h0 := World.block_lt_of_cell? w _ hG.glob.err
    obtain ⟨te, pe, he⟩ := hG.rng
    have h2 := World.block_lt_of_cell? w _ he
    exact ⟨h2, h0⟩
  have HG := Lib.hid hG
  clear hG
  go_enter Tryz.func44, Tryz.ntmps44
  go_wp2_with fail
  refine calls_gen (P := fun W => Bx W w.heap.size 81 [.slice none 0 0, .slice none 0 0, .slice none 0 0, .slice none 0 0] ∧ Below w.heap.size w W) ⟨Bx.new _ _ _, (Below.refl _ _).alloc (Nat.le_refl _) _⟩ ?_
  rintro W ⟨hB, hF⟩
  have hl0 := hB.lt
  cases htk : toks s.data.toList with
  | error x =>
    obtain ⟨x, q⟩ := x
    refine (new_erX W (HG.out.below hF) hs htk).mono ?_
    rintro e w1 ⟨eb, rfl, hbb, _, hA, hb⟩
    have hB1 := hB.below hb
    have HR := Lib.hid (show parseM D s.data.toList = .er x q by unfold parseM; rw [htk])
    have HA := Lib.hid hA
    have HF1 := Lib.hid (hF.trans (hb.mono hF.size))
    have a0 := hB1.cell 0
    have a1 := hB1.cell 1
    have a2 := hB1.cell 2
    have a3 := hB1.cell 3
    simp only [List.getElem?_cons_zero, List.getElem?_cons_succ] at a0 a1 a2 a3
    have y0 := hB1.frozen 0
    have y1 := hB1.frozen 1
    have y2 := hB1.frozen 2
    have y3 := hB1.frozen 3
    have hl1 := hB1.lt
    have HB1 := Lib.hid hB1
    clear hB hF hA hb hB1 htk
    go_wp2
    have hBf := HB1.out.setL (i := 0) (us := [.slice none 0 0, .slice none 0 0, .slice none 0 0, .slice none 0 0])
    simp only [setL, setLs, List.set_cons_zero, List.set_cons_succ] at hBf
    rw [HR.out]
    refine bodyPost_ret (v := .tuple #[.agg #[.slice none 0 0, .slice none 0 0, .slice none 0 0, .slice none 0 0], .iface 116 (.pointer (some ⟨eb, 0, none⟩))]) (by simp [results, Tryz.results44, go_sem, hBf.cell]) rfl ⟨eb, rfl, ?_, ?_⟩
    · exact AtE.farL (i := 0) (us := [.slice none 0 0, .slice none 0 0, .slice none 0 0, .slice none 0 0]) HA.out (by omega)
    · exact (Fx.setL (X := fun _ => False) (q := w.heap.size) (i := 0) (us := [.slice none 0 0, .slice none 0 0, .slice none 0 0, .slice none 0 0]) (.inl (Nat.le_refl _)) (Fx.of HF1.out)).below (fun _ h => h.elim)
  | ok ts =>
    refine (new_tr W (HG.out.below hF) hs htk).mono ?_
    rintro e w1 ⟨rb, rfl, hrb, hT, hb⟩
    have HB1 := Lib.hid (hB.below hb)
    have HT1 := Lib.hid hT
    have HF1 := Lib.hid (hF.trans (hb.mono hF.size))
    have HP := Lib.hid (show parseM D s.data.toList = endM (St.mdl D (.good ts)) by unfold parseM; rw [htk])
    have hs1 := HB1.out.lt
    clear hB hT hF hb htk
    go_wp2_with fail
    refine calls_gen (P := fun W2 => MRd W2 w1.heap.size rb w.heap.size D (.good ts) ∧ Bx W2 w.heap.size 81 [.slice none 0 0, .slice none 0 0, .slice none 0 0, .slice none 0 0] ∧ Below w.heap.size w W2) ⟨?_, HB1.out.alloc _, HF1.out.alloc HF1.out.size _⟩ ?_
    · have hba : Below w1.heap.size w1 (w1.alloc (.cells #[.pointer (some ⟨rb, 0, none⟩), .int .i64 (D : Int), .nilIface] 164)) := (Below.refl _ _).alloc (Nat.le_refl _) _
      exact ⟨⟨.nilIface, Bx.new _ _ _, rfl⟩, HT1.out.below hba, HT1.out.glob.below hba, h1, h64, hlo, ⟨by omega, by omega⟩, by have := HT1.out.ltr; simp; omega⟩
    have hrl := HT1.out.ltr
    rintro W2 ⟨hM, hB, hF⟩
    have hlW := hM.ltx
    refine (mmodel_any W2 hM).mono ?_
    rintro e w3 ⟨v, rfl, hR, hM3, hF3⟩
    obtain ⟨m, st3, hres⟩ : ∃ m st3, St.mdl D (.good ts) = (m, st3) := ⟨_, _, rfl⟩
    rw [hres] at hR hM3 HP ⊢
    have hB3 := hB.fx hF3 (fun hx2 => by rcases hx2 with e | e <;> omega)
    have hbl3 : Below w.heap.size w w3 := hF3.belowOf hF (by omega) (by omega)
    obtain ⟨ev, c0, c1, c2, _, _, hev⟩ := hM3.cells
    have hx3 := hM3.ltx
    have HRR := Lib.hid (show MdR w3 (W2.heap.size + 1) m v from hR)
    have HM3 := Lib.hid hM3
    have HBL := Lib.hid hbl3
    have hW2 : w.heap.size ≤ W2.heap.size := hF.size
    have hs3 : W2.heap.size ≤ w3.heap.size := hF3.size
    have hne : w.heap.size ≠ w3.heap.size := by omega
    have hxne : w1.heap.size ≠ w.heap.size := by omega
    have a0 := hB3.cell 0
    have a1 := hB3.cell 1
    have a2 := hB3.cell 2
    have a3 := hB3.cell 3
    simp only [List.getElem?_cons_zero, List.getElem?_cons_succ] at a0 a1 a2 a3
    have y0 := hB3.frozen 0
    have y1 := hB3.frozen 1
    have y2 := hB3.frozen 2
    have y3 := hB3.frozen 3
    have hl3 := hB3.lt
    have HB3 := Lib.hid hB3
    clear hM hB hF hR hM3 hF3 hB3 hbl3 hres HB1 HT1 HF1
    cases st3 with
    | good us =>
      obtain rfl : ev = .nilIface := hev
      dsimp only [MdV.v1, MdV.v2, MdV.v3, MdV.v4]
      go_wp2
      have hBf := (HB3.out.setL (i := 0) (us := [v.v1 m, v.v2 m, v.v3 m, v.v4 m])).alloc (.cells #[v.v1 m, v.v2 m, v.v3 m, v.v4 m] 81)
      simp only [setL, setLs, List.set_cons_zero, List.set_cons_succ] at hBf
      simp only [MdV.v1, MdV.v2, MdV.v3, MdV.v4] at hBf
      rw [HP.out]
      have hk : Kt (W2.heap.size + 1) E0 w3 (setL w3 w.heap.size 0 [v.v1 m, v.v2 m, v.v3 m, v.v4 m]) := Kt.setL (by omega)
      refine bodyPost_ret (v := .tuple #[.agg #[v.v1 m, v.v2 m, v.v3 m, v.v4 m], .nilIface]) (by simp [results, Tryz.results44, go_sem, hBf.cell, MdV.v1, MdV.v2, MdV.v3, MdV.v4]) rfl ⟨v, rfl, ?_, ?_⟩
      · exact ((HRR.out.keep hk).mono (by omega)).keep (Kt.below ((Below.refl _ _).alloc (Nat.le_refl _) _))
      · exact (Fx.alloc (Fx.setL (X := fun _ => False) (q := w.heap.size) (i := 0) (us := [v.v1 m, v.v2 m, v.v3 m, v.v4 m]) (.inl (Nat.le_refl _)) (Fx.of HBL.out)) _).below (fun _ h => h.elim)
    | bad c p =>
      obtain ⟨eb, rfl, hA⟩ := hev
      have HA := Lib.hid hA
      clear hA
      dsimp only [MdV.v1, MdV.v2, MdV.v3, MdV.v4]
      go_wp2_with fail
      go_region
      go_wp2
      rw [HP.out]
      have hBf := (HB3.out.setL (i := 0) (us := [.slice none 0 0, .slice none 0 0, .slice none 0 0, .slice none 0 0])).alloc (.cells #[v.v1 m, v.v2 m, v.v3 m, v.v4 m] 81)
      simp only [setL, setLs, List.set_cons_zero, List.set_cons_succ] at hBf
      simp only [MdV.v1, MdV.v2, MdV.v3, MdV.v4] at hBf
      have hne2 : eb ≠ w.heap.size := by
        intro e
        obtain ⟨cs, h1⟩ := HA.out.typ
        exact absurd (blk_typ (e ▸ h1) HB3.out) (by decide)
      refine bodyPost_ret (v := .tuple #[.agg #[.slice none 0 0, .slice none 0 0, .slice none 0 0, .slice none 0 0], .iface 116 (.pointer (some ⟨eb, 0, none⟩))]) (by simp [results, Tryz.results44, go_sem, hBf.cell]) rfl ⟨eb, rfl, ?_, ?_⟩
      · exact ((AtE.farL (i := 0) (us := [.slice none 0 0, .slice none 0 0, .slice none 0 0, .slice none 0 0]) HA.out hne2).alloc _).below (Below.refl _ _).drew
      · exact ((Fx.alloc (Fx.setL (X := fun _ => False) (q := w.heap.size) (i := 0) (us := [.slice none 0 0, .slice none 0 0, .slice none 0 0, .slice none 0 0]) (.inl (Nat.le_refl _)) (Fx.of HBL.out)) _).drew).below (fun _ h => h.elim)
end Go.Proofs.YtddeplbgihcdkaaGreatDoor
end
section
namespace Go.Proofs.YtddeplbgihcdkaaGreatDoor

/-- Reads on so, up to where something is still left to be read. -/
structure SQc (f : St → St) : Prop where
  ext : ∀ T us us', Al T us us' → ∀ r, f (.good us) = .good r → (hd r).kind ≠ 0 → ∃ r', f (.good us') = .good r' ∧ Al T r r'
  bad : ∀ c p, f (.bad c p) = .bad c p
  stay : ∀ us r, (hd us).kind = 0 → f (.good us) = .good r → (hd r).kind = 0
/-- Reads on so, and reads at least one token. -/
structure SQu (f : St → St) : Prop where
  ext : ∀ T us us', Al T us us' → ∀ r, f (.good us) = .good r → ∃ r', f (.good us') = .good r' ∧ Al T r r'
  bad : ∀ c p, f (.bad c p) = .bad c p
  nz : ∀ us r, f (.good us) = .good r → (hd us).kind ≠ 0
theorem SQu.sc {f : St → St} (h : SQu f) : SQc f := ⟨fun T us us' ha r hr _ => h.ext T us us' ha r hr, h.bad, fun us r h0 hr => absurd h0 (h.nz us r hr)⟩
theorem SQc.id : SQc (fun st => st) := ⟨fun _ us us' ha r hr _ => by injection hr with hr; subst hr; exact ⟨us', rfl, ha⟩, fun _ _ => rfl, fun us r h0 hr => by injection hr with hr; subst hr; exact h0⟩
section
variable {f g : St → St}
theorem st_good (hb : ∀ c p, g (.bad c p) = .bad c p) {st : St} {r : List Tok} (h : g st = .good r) : ∃ us, st = .good us := by
  cases st with
  | good us => exact ⟨us, rfl⟩
  | bad c p => rw [hb] at h; cases h
theorem SQc.comp (hf : SQc f) (hg : SQc g) : SQc (fun st => g (f st)) := by
  refine ⟨fun T us us' ha r hr h0 => ?_, fun c p => by rw [hf.bad, hg.bad], fun us r h0 hr => ?_⟩
  · obtain ⟨r1, h1⟩ := st_good hg.bad hr
    rw [h1] at hr
    have h2 : (hd r1).kind ≠ 0 := fun e => h0 (hg.stay r1 r e hr)
    obtain ⟨r1', h3, h4⟩ := hf.ext T us us' ha r1 h1 h2
    obtain ⟨r', h5, h6⟩ := hg.ext T r1 r1' h4 r hr h0
    exact ⟨r', by rw [h3]; exact h5, h6⟩
  · obtain ⟨r1, h1⟩ := st_good hg.bad hr
    rw [h1] at hr
    exact hg.stay r1 r (hf.stay us r1 h0 h1) hr
theorem SQc.then_ (hf : SQc f) (hg : SQu g) : SQu (fun st => g (f st)) := by
  refine ⟨fun T us us' ha r hr => ?_, fun c p => by rw [hf.bad, hg.bad], fun us r hr h0 => ?_⟩
  · obtain ⟨r1, h1⟩ := st_good hg.bad hr
    rw [h1] at hr
    obtain ⟨r1', h3, h4⟩ := hf.ext T us us' ha r1 h1 (hg.nz r1 r hr)
    obtain ⟨r', h5, h6⟩ := hg.ext T r1 r1' h4 r hr
    exact ⟨r', by rw [h3]; exact h5, h6⟩
  · obtain ⟨r1, h1⟩ := st_good hg.bad hr
    rw [h1] at hr
    exact hg.nz r1 r hr (hf.stay us r1 h0 h1)
end
theorem su_want (x : List UInt8) : SQu (St.want x) := by
  refine ⟨fun T us us' ha r hr => ?_, fun _ _ => rfl, fun us r hr => ?_⟩
  · unfold St.want at hr ⊢
    split at hr
    · next hi =>
      have h0 := isT_kind hi
      obtain ⟨h1, h2, h3⟩ := ha.more h0
      injection hr with hr
      subst hr
      exact ⟨us'.tail, by rw [if_pos (show isT (St.good us').hd x = true from (isT_same h1 h2 x).symm.trans hi)]; rfl, h3⟩
    · cases hr
  · unfold St.want at hr
    split at hr
    · next hi => exact isT_kind hi
    · cases hr
theorem su_name : SQu (fun st => st.name.2) := by
  refine ⟨fun T us us' ha r hr => ?_, fun _ _ => rfl, fun us r hr => ?_⟩
  · simp only [St.name] at hr ⊢
    split at hr
    · next hi =>
      have h0 : (hd us).kind ≠ 0 := by rw [show (hd us).kind = 1 from (nm_kind hi).1]; decide
      obtain ⟨h1, h2, h3⟩ := ha.more h0
      injection hr with hr
      subst hr
      have hi' : isNm (St.good us').hd = true := by
        have : isNm (hd us) = true := hi
        show isNm (hd us') = true
        unfold isNm at this ⊢
        rw [← h1, ← h2]; exact this
      exact ⟨us'.tail, by rw [if_pos hi']; rfl, h3⟩
    · cases hr
  · simp only [St.name] at hr
    split at hr
    · next hi => show (hd us).kind ≠ 0; rw [show (hd us).kind = 1 from (nm_kind hi).1]; decide
    · cases hr
theorem su_text : SQu (fun st => st.text.2) := by
  refine ⟨fun T us us' ha r hr => ?_, fun _ _ => rfl, fun us r hr => ?_⟩
  · simp only [St.text] at hr ⊢
    split at hr
    · next hi =>
      have hi : (hd us).kind = 3 := hi
      obtain ⟨h1, h2, h3⟩ := ha.more (by omega)
      injection hr with hr
      subst hr
      exact ⟨us'.tail, by rw [if_pos (show (St.good us').hd.kind = 3 from h1.symm.trans hi)]; rfl, h3⟩
    · cases hr
  · simp only [St.text] at hr
    split at hr
    · next hi => have hi : (hd us).kind = 3 := hi; omega
    · cases hr
theorem nz_dp : ∀ l, NZ (dp l).c
  | 0 => fun _ _ _ h => by cases h
  | l + 1 => by
    intro us e r h
    obtain ⟨a, r1, h1, _⟩ := cond_ok_iff h
    intro h0
    have hz : NZ (implX (dp l)) := by
      have zr : NZ (compX (dp l)) := nz_comp (nz_chain (nz_chain (nz_minus _)))
      have zo : NZ (disjX (dp l)) := nz_chain (nz_chain (nz_neg zr))
      intro us e r h
      cases hd' : disjX (dp l) us with
      | er c p => rw [implX, hd'] at h; cases h
      | ok x y => exact zo us x y hd'
    exact hz us a r1 h1 h0
theorem su_expr (D : Nat) : SQu (fun st => (st.expr D).2) := by
  refine ⟨fun T us us' ha r hr => ?_, fun _ _ => rfl, fun us r hr => ?_⟩
  · have e : ∀ us, (St.good us).expr D = exprP ((dp D).c us) := fun _ => rfl
    simp only [e] at hr ⊢
    cases h : (dp D).c us with
    | er c p => rw [h] at hr; cases hr
    | ok x y =>
      rw [h] at hr
      injection hr with hr
      subst hr
      obtain ⟨e', r', h1, _, h3⟩ := (ext_dp D D (Nat.le_refl _)).c T us us' ha x y h
      exact ⟨r', by rw [h1]; rfl, h3⟩
  · have e : (St.good us).expr D = exprP ((dp D).c us) := rfl
    simp only [e] at hr
    cases h : (dp D).c us with
    | er c p => rw [h] at hr; cases hr
    | ok x y => exact nz_dp D us x y h
theorem su_mean (D : Nat) : SQu (fun st => (st.mean D).2) := ((su_want [61]).sc.comp (su_expr D).sc).then_ (su_want [59])
theorem su_defn (D : Nat) : SQu (fun st => (st.defn D).2) := su_name.sc.then_ (su_mean D)
theorem su_labl (D : Nat) : SQu (fun st => (st.labl D).2) := su_text.sc.then_ (su_mean D)
theorem su_bnds (D : Nat) : SQu (fun st => (st.bnds D).2) := ((((su_want [91]).sc.comp (su_expr D).sc).comp (su_want [46, 46]).sc).comp (su_expr D).sc).then_ (su_want [93])
/-- One way where a token stands, another elsewhere. -/
structure SQa (f : St → St) : Prop where
  ext : ∀ T us us', Al T us us' → (hd us).kind ≠ 0 → ∀ r, f (.good us) = .good r → (hd r).kind ≠ 0 → ∃ r', f (.good us') = .good r' ∧ Al T r r'
theorem SQc.sa {f : St → St} (h : SQc f) : SQa f := ⟨fun T us us' ha _ r hr h0 => h.ext T us us' ha r hr h0⟩
theorem sa_tl {f : St → St} (h : SQc f) : SQa (fun st => f st.tl) := ⟨fun T us us' ha hk r hr h0 => h.ext T us.tail us'.tail (ha.more hk).2.2 r hr h0⟩
def Tst (p : Tok → Bool) : Prop := (∀ t t' : Tok, t.kind = t'.kind → t.text = t'.text → p t = p t') ∧ ∀ t : Tok, p t = true → t.kind ≠ 0
theorem tst_isT (x : List UInt8) : Tst (fun t => isT t x) := ⟨fun _ _ h1 h2 => isT_same h1 h2 x, fun _ h => isT_kind h⟩
theorem tst_nm : Tst isNm := ⟨fun t t' h1 h2 => by unfold isNm; rw [h1, h2], fun t h => by rw [(nm_kind h).1]; decide⟩
theorem sc_ite {p : Tok → Bool} {f g : St → St} (hp : Tst p) (hf : SQa f) (hg : SQc g) : SQc (fun st => if p st.hd then f st else g st) := by
  have hz : p (⟨0, [], 0⟩ : Tok) = false := by
    cases h : p (⟨0, [], 0⟩ : Tok) with
    | false => rfl
    | true => exact absurd rfl (hp.2 _ h)
  refine ⟨fun T us us' ha r hr h0 => ?_, fun c q => ?_, fun us r h0 hr => ?_⟩
  · by_cases hk : (hd us).kind = 0
    · have hpf : p (St.good us).hd = false := by
        cases h : p (St.good us).hd with
        | false => rfl
        | true => exact absurd hk (hp.2 _ h)
      simp only [hpf] at hr
      exact absurd (hg.stay us r hk hr) h0
    · obtain ⟨h1, h2, _⟩ := ha.more hk
      have e : p (St.good us').hd = p (St.good us).hd := (hp.1 _ _ h1 h2).symm
      simp only [e]
      split at hr
      · next hpt => simp only [hpt, if_true]; exact hf.ext T us us' ha hk r hr h0
      · next hpt => simp only [hpt]; exact hg.ext T us us' ha r hr h0
  · show (if p (⟨0, [], 0⟩ : Tok) then f (.bad c q) else g (.bad c q)) = _
    rw [hz]
    exact hg.bad c q
  · have hpf : p (St.good us).hd = false := by
      cases h : p (St.good us).hd with
      | false => rfl
      | true => exact absurd h0 (hp.2 _ h)
    simp only [hpf] at hr
    exact hg.stay us r h0 hr
end Go.Proofs.YtddeplbgihcdkaaGreatDoor
end
section
namespace Go.Proofs.YtddeplbgihcdkaaGreatDoor

theorem SQc.congr {f g : St → St} (h : ∀ st, f st = g st) (hg : SQc g) : SQc f := by rw [show f = g from funext h]; exact hg
theorem sc_vals (D : Nat) : SQc (fun st => (st.vals D).2) :=
  SQc.congr (fun st => by unfold St.vals; split <;> rfl) (sc_ite (tst_isT wBool) (sa_tl SQc.id) (su_bnds D).sc)
theorem sc_init (D : Nat) : SQc (fun st => (st.init D).2) :=
  SQc.congr (fun st => by unfold St.init; split <;> rfl) (sc_ite (tst_isT wInit) (sa_tl (su_expr D).sc) SQc.id)
theorem su_vrbl (D : Nat) : SQu (fun st => (st.vrbl D).2) := (((su_name.sc.comp (su_want [58]).sc).comp (sc_vals D)).comp (sc_init D)).then_ (su_want [59])
section
variable {α : Type} {p : Tok → Bool} {rd : St → α × St}
theorem tst_zero (hp : Tst p) : p (⟨0, [], 0⟩ : Tok) = false := by
  cases h : p (⟨0, [], 0⟩ : Tok) with
  | false => rfl
  | true => exact absurd rfl (hp.2 _ h)
theorem tst_no (hp : Tst p) {t : Tok} (h0 : t.kind = 0) : p t = false := by
  cases h : p t with
  | false => rfl
  | true => exact absurd h0 (hp.2 _ h)
theorem list_bad (hp : Tst p) (c q : Nat) : ((St.bad c q).list p rd).2 = .bad c q := by
  rw [list_end (show p (St.bad c q).hd = false from tst_zero hp)]
theorem list_stay (hp : Tst p) {us r : List Tok} (h0 : (hd us).kind = 0) (hr : ((St.good us).list p rd).2 = .good r) : (hd r).kind = 0 := by
  rw [list_end (show p (St.good us).hd = false from tst_no hp h0)] at hr
  injection hr with hr
  subst hr
  exact h0
theorem list_ext (hp : Tst p) (hdc : Dec p rd) (hrd : SQa (fun st => (rd st).2)) : ∀ (n : Nat) (T us us' : List Tok), us.length ≤ n → Al T us us' → ∀ r, ((St.good us).list p rd).2 = .good r → (hd r).kind ≠ 0 → ∃ r', ((St.good us').list p rd).2 = .good r' ∧ Al T r r'
  | n, T, us, us', hn, ha, r, hr, h0 => by
    have hk : (hd us).kind ≠ 0 := fun e => h0 (list_stay hp e hr)
    obtain ⟨h1, h2, _⟩ := ha.more hk
    have e : p (St.good us').hd = p (St.good us).hd := (hp.1 _ _ h1 h2).symm
    cases hpt : p (St.good us).hd with
    | false =>
      rw [list_end hpt] at hr
      rw [list_end (e.trans hpt)]
      injection hr with hr
      subst hr
      exact ⟨us', rfl, ha⟩
    | true =>
      rw [list_go hdc hpt] at hr
      rw [list_go hdc (e.trans hpt)]
      have hl : (rd (.good us)).2.len < us.length := (hdc _ hpt).1
      cases hq : (rd (.good us)).2 with
      | bad c q => rw [hq, list_bad hp] at hr; cases hr
      | good r1 =>
        rw [hq] at hr hl
        have h3 : (hd r1).kind ≠ 0 := fun e => h0 (list_stay hp e hr)
        obtain ⟨r1', h4, h5⟩ := hrd.ext T us us' ha hk r1 hq h3
        have hl : r1.length < us.length := hl
        cases n with
        | zero => omega
        | succ n =>
          obtain ⟨r', h6, h7⟩ := list_ext hp hdc hrd n T r1 r1' (by omega) h5 r hr h0
          exact ⟨r', by rw [h4]; exact h6, h7⟩
theorem sc_list (hp : Tst p) (hdc : Dec p rd) (hrd : SQa (fun st => (rd st).2)) : SQc (fun st => (st.list p rd).2) :=
  ⟨fun T us us' ha r hr h0 => list_ext hp hdc hrd us.length T us us' (Nat.le_refl _) ha r hr h0, fun c q => list_bad hp c q, fun _ _ h0 hr => list_stay hp h0 hr⟩
end
theorem su_sett (D : Nat) : SQu (fun st => (st.sett D).2) := (((((su_want [40]).sc.comp su_name.sc).comp (su_want [39]).sc).comp (su_want [61]).sc).comp (su_expr D).sc).then_ (su_want [41])
theorem tst_num : Tst (fun t : Tok => t.kind == 2) := ⟨fun t t' h1 _ => by simp only [h1], fun t h h0 => by simp [h0] at h⟩
theorem sc_wght : SQc (fun st => st.wght.2) := by
  refine SQc.congr (g := fun st => if (fun t : Tok => t.kind == 2) st.hd then (fun st : St => if valOf st.hd.text = 0 then .bad 33 st.hd.pos else st.tl.want [58]) st else (fun st : St => st) st) (fun st => by unfold St.wght; by_cases h : st.hd.kind = 2 <;> simp [h]) (sc_ite tst_num ⟨fun T us us' ha hk r hr h0 => ?_⟩ SQc.id)
  obtain ⟨h1, h2, h3⟩ := ha.more hk
  have e : (St.good us').hd.text = (St.good us).hd.text := h2.symm
  simp only [e]
  dsimp only at hr
  split at hr
  · cases hr
  · next hv =>
    rw [if_neg hv]
    exact (su_want [58]).sc.ext T us.tail us'.tail h3 r hr h0
theorem sc_sets (D : Nat) : SQc (fun st => (st.sets D).2) :=
  SQc.congr (fun st => by unfold St.sets; split <;> rfl) (sc_ite (tst_isT opTrue) (sa_tl SQc.id) ((su_sett D).sc.comp (sc_list (tst_isT [38]) (dec_sett D) (sa_tl (su_sett D).sc))))
theorem sc_brch (D : Nat) : SQc (fun st => (st.brch D).2) := sc_wght.comp (sc_sets D)
theorem sc_brchs (D : Nat) : SQc (fun st => (st.brchs D).2) := (sc_brch D).comp (sc_list (tst_isT [43]) (dec_brch D) (sa_tl (sc_brch D)))
theorem sc_actn : SQc (fun st => st.actn.2) :=
  SQc.congr (fun st => by unfold St.actn; split <;> rfl) (sc_ite (tst_isT [93]) SQc.id.sa su_name.sc)
theorem su_guard (D : Nat) : SQu (fun st => (st.guard D).2) := (((su_want [91]).sc.comp sc_actn).comp (su_want [93]).sc).then_ (su_expr D)
theorem su_cmnd (D : Nat) : SQu (fun st => (st.cmnd D).2) := (((su_guard D).sc.comp (su_want [45, 62]).sc).comp (sc_brchs D)).then_ (su_want [59])
theorem sc_vrbls (D : Nat) : SQc (fun st => (st.vrbls D).2) := su_name.sc.comp (sc_list tst_nm (dec_vrbl D) (su_vrbl D).sc.sa)
theorem sc_cmnds (D : Nat) : SQc (fun st => (st.cmnds D).2) := (sc_vrbls D).comp (sc_list (tst_isT [91]) (dec_cmnd D) (su_cmnd D).sc.sa)
theorem su_modl (D : Nat) : SQu (fun st => (st.modl D).2) := (sc_cmnds D).then_ (su_want wEnd)
/-- Item by item. -/
theorem mdl_one0 (D : Nat) (m : MdlO) {st : St} (h : isT st.hd wConst = true) : st.mdlOn D m = (st.tl.defn D).2.mdlOn D { m with consts := m.consts ++ [(st.tl.defn D).1] } := by
  rw [mdl_go D (isT_kind h)]
  have hi : st.items D m = ({ m with consts := m.consts ++ (constsL D st).1 }, (constsL D st).2) := by unfold St.items; rw [if_pos h]
  rw [hi]
  have hl : constsL D st = ((st.tl.defn D).1 :: (constsL D (st.tl.defn D).2).1, (constsL D (st.tl.defn D).2).2) := list_go (dec_defn D wConst) h
  rw [hl]
  cases hn : isT (st.tl.defn D).2.hd wConst with
  | true =>
    rw [mdl_go D (isT_kind hn)]
    have hi2 : ∀ m', (st.tl.defn D).2.items D m' = ({ m' with consts := m'.consts ++ (constsL D (st.tl.defn D).2).1 }, (constsL D (st.tl.defn D).2).2) := fun m' => by unfold St.items; rw [if_pos hn]
    rw [hi2]
    simp
  | false =>
    have hl2 : constsL D (st.tl.defn D).2 = ([], (st.tl.defn D).2) := list_end hn
    rw [hl2]
theorem mdl_one1 (D : Nat) (m : MdlO) {st : St} (h0 : isT st.hd wConst = false) (h : isT st.hd wFormula = true) : st.mdlOn D m = (st.tl.defn D).2.mdlOn D { m with formulas := m.formulas ++ [(st.tl.defn D).1] } := by
  rw [mdl_go D (isT_kind h)]
  have hi : st.items D m = ({ m with formulas := m.formulas ++ (formsL D st).1 }, (formsL D st).2) := by unfold St.items; rw [if_neg (by simp [h0]), if_pos h]
  rw [hi]
  have hl : formsL D st = ((st.tl.defn D).1 :: (formsL D (st.tl.defn D).2).1, (formsL D (st.tl.defn D).2).2) := list_go (dec_defn D wFormula) h
  rw [hl]
  cases hn : isT (st.tl.defn D).2.hd wFormula with
  | true =>
    have hc : isT (st.tl.defn D).2.hd wConst = false := by
      cases hx : isT (st.tl.defn D).2.hd wConst with
      | false => rfl
      | true => exact absurd ((isT_text hx).symm.trans (isT_text hn)) (by decide)
    rw [mdl_go D (isT_kind hn)]
    have hi2 : ∀ m', (st.tl.defn D).2.items D m' = ({ m' with formulas := m'.formulas ++ (formsL D (st.tl.defn D).2).1 }, (formsL D (st.tl.defn D).2).2) := fun m' => by unfold St.items; rw [if_neg (by simp [hc]), if_pos hn]
    rw [hi2]
    simp
  | false =>
    have hl2 : formsL D (st.tl.defn D).2 = ([], (st.tl.defn D).2) := list_end hn
    rw [hl2]
theorem mdl_one2 (D : Nat) (m : MdlO) {st : St} (h0 : isT st.hd wConst = false) (h1 : isT st.hd wFormula = false) (h : isT st.hd wLabel = true) : st.mdlOn D m = (st.tl.labl D).2.mdlOn D { m with labels := m.labels ++ [(st.tl.labl D).1] } := by
  rw [mdl_go D (isT_kind h)]
  have hi : st.items D m = ({ m with labels := m.labels ++ (lablsL D st).1 }, (lablsL D st).2) := by unfold St.items; rw [if_neg (by simp [h0]), if_neg (by simp [h1]), if_pos h]
  rw [hi]
  have hl : lablsL D st = ((st.tl.labl D).1 :: (lablsL D (st.tl.labl D).2).1, (lablsL D (st.tl.labl D).2).2) := list_go (dec_labl D wLabel) h
  rw [hl]
  cases hn : isT (st.tl.labl D).2.hd wLabel with
  | true =>
    have hc : ∀ x, x ≠ wLabel → isT (st.tl.labl D).2.hd x = false := fun x hx => by
      cases hy : isT (st.tl.labl D).2.hd x with
      | false => rfl
      | true => exact absurd ((isT_text hy).symm.trans (isT_text hn)) hx
    rw [mdl_go D (isT_kind hn)]
    have hi2 : ∀ m', (st.tl.labl D).2.items D m' = ({ m' with labels := m'.labels ++ (lablsL D (st.tl.labl D).2).1 }, (lablsL D (st.tl.labl D).2).2) := fun m' => by unfold St.items; rw [if_neg (by simp [hc wConst (by decide)]), if_neg (by simp [hc wFormula (by decide)]), if_pos hn]
    rw [hi2]
    simp
  | false =>
    have hl2 : lablsL D (st.tl.labl D).2 = ([], (st.tl.labl D).2) := list_end hn
    rw [hl2]
theorem mdl_one3 (D : Nat) (m : MdlO) {st : St} (h0 : isT st.hd wConst = false) (h1 : isT st.hd wFormula = false) (h2 : isT st.hd wLabel = false) (h : isT st.hd wModule = true) : st.mdlOn D m = (st.tl.modl D).2.mdlOn D { m with mods := m.mods ++ [(st.tl.modl D).1] } := by
  rw [mdl_go D (isT_kind h)]
  have hi : st.items D m = ({ m with mods := m.mods ++ (modsL D st).1 }, (modsL D st).2) := by unfold St.items; rw [if_neg (by simp [h0]), if_neg (by simp [h1]), if_neg (by simp [h2]), if_pos h]
  rw [hi]
  have hl : modsL D st = ((st.tl.modl D).1 :: (modsL D (st.tl.modl D).2).1, (modsL D (st.tl.modl D).2).2) := list_go (dec_modl D wModule) h
  rw [hl]
  cases hn : isT (st.tl.modl D).2.hd wModule with
  | true =>
    have hc : ∀ x, x ≠ wModule → isT (st.tl.modl D).2.hd x = false := fun x hx => by
      cases hy : isT (st.tl.modl D).2.hd x with
      | false => rfl
      | true => exact absurd ((isT_text hy).symm.trans (isT_text hn)) hx
    rw [mdl_go D (isT_kind hn)]
    have hi2 : ∀ m', (st.tl.modl D).2.items D m' = ({ m' with mods := m'.mods ++ (modsL D (st.tl.modl D).2).1 }, (modsL D (st.tl.modl D).2).2) := fun m' => by unfold St.items; rw [if_neg (by simp [hc wConst (by decide)]), if_neg (by simp [hc wFormula (by decide)]), if_neg (by simp [hc wLabel (by decide)]), if_pos hn]
    rw [hi2]
    simp
  | false =>
    have hl2 : modsL D (st.tl.modl D).2 = ([], (st.tl.modl D).2) := list_end hn
    rw [hl2]
theorem mdl_bad (D : Nat) (m : MdlO) (c p : Nat) : (St.bad c p).mdlOn D m = (m, .bad c p) := mdl_end D rfl
theorem mdl_none (D : Nat) (m : MdlO) {st : St} (hk : st.hd.kind ≠ 0) (h0 : isT st.hd wConst = false) (h1 : isT st.hd wFormula = false) (h2 : isT st.hd wLabel = false) (h3 : isT st.hd wModule = false) : ∃ c p, st.mdlOn D m = (m, .bad c p) := by
  rw [mdl_go D hk]
  have hi : st.items D m = (m, st.fail 20) := by unfold St.items; rw [if_neg (by simp [h0]), if_neg (by simp [h1]), if_neg (by simp [h2]), if_neg (by simp [h3])]
  rw [hi]
  obtain ⟨us, rfl, _⟩ := hd_bad hk
  exact ⟨20, (hd us).pos, mdl_bad D m _ _⟩
/-- How many there are of each kind. -/
def MdlO.vec (m : MdlO) : Nat × Nat × Nat × Nat := (m.consts.length, m.formulas.length, m.labels.length, m.mods.length)
def addV (a b : Nat × Nat × Nat × Nat) : Nat × Nat × Nat × Nat := (a.1 + b.1, a.2.1 + b.2.1, a.2.2.1 + b.2.2.1, a.2.2.2 + b.2.2.2)
theorem vec_sub {a b c d e : Nat × Nat × Nat × Nat} (h : addV a (addV b e) = addV (addV c e) d) : addV a b = addV c d := by
  obtain ⟨a1, a2, a3, a4⟩ := a
  obtain ⟨b1, b2, b3, b4⟩ := b
  obtain ⟨c1, c2, c3, c4⟩ := c
  obtain ⟨d1, d2, d3, d4⟩ := d
  obtain ⟨e1, e2, e3, e4⟩ := e
  simp only [addV, Prod.mk.injEq] at h ⊢
  omega
/-- What is read of the first of two is read of both, and then the second. -/
theorem mdl_ext (D : Nat) : ∀ (n : Nat) (T us us' : List Tok), us.length ≤ n → Fine us → Al T us us' → ∀ (m m0 mu : MdlO) (r : List Tok), (St.good us).mdlOn D m = (mu, .good r) →
    ∃ m1 : MdlO, addV m1.vec m.vec = addV m0.vec mu.vec ∧ (St.good us').mdlOn D m0 = (St.good T).mdlOn D m1
  | n, T, us, us', hn, hf, ha, m, m0, mu, r, hr => by
    by_cases hk : (hd us).kind = 0
    · rw [mdl_end D (show (St.good us).hd.kind = 0 from hk)] at hr
      injection hr with h1 h2
      subst h1
      cases ha with
      | stop h0 hs => exact ⟨m0, rfl, rfl⟩
      | @cons t t' us2 us2' h1 h2 h3 =>
        exfalso
        cases us2 with
        | nil => cases h3
        | cons u us3 => exact hf.1 hk
    · obtain ⟨k1, k2, k3⟩ := ha.more hk
      have hT : ∀ x, isT (St.good us').hd x = isT (St.good us).hd x := fun x => (isT_same k1 k2 x).symm
      have hf2 : Fine us.tail := (hf.more hk).1
      have hl2 : us.tail.length < us.length := by have := hf.ne; cases us with
        | nil => exact absurd rfl this
        | cons t q => simp
      have go : ∀ (F : St → St), SQu F → (∀ st, Le (F st) st) → ∀ (m' m0' : MdlO) (e : Nat × Nat × Nat × Nat), m'.vec = addV m.vec e → m0'.vec = addV m0.vec e → (F (.good us.tail)).mdlOn D m' = (mu, .good r) →
          ∃ m1 : MdlO, addV m1.vec m.vec = addV m0.vec mu.vec ∧ (F (.good us'.tail)).mdlOn D m0' = (St.good T).mdlOn D m1 := by
        intro F hF hL m' m0' e hm hm0 hr
        cases hq : F (.good us.tail) with
        | bad c p => rw [hq, mdl_bad] at hr; injection hr with _ hr; cases hr
        | good r1 =>
          rw [hq] at hr
          obtain ⟨r1', h4, h5⟩ := hF.ext T us.tail us'.tail k3 r1 hq
          have hle := hL (.good us.tail)
          rw [hq] at hle
          have hlen : r1.length ≤ us.tail.length := hle.1
          have hfi : Fine r1 := hle.2 hf2
          cases n with
          | zero => omega
          | succ n =>
            obtain ⟨m1, h6, h7⟩ := mdl_ext D n T r1 r1' (by omega) hfi h5 m' m0' mu r hr
            rw [hm, hm0] at h6
            exact ⟨m1, vec_sub h6, by rw [h4]; exact h7⟩
      cases h0 : isT (St.good us).hd wConst with
      | true =>
        rw [mdl_one0 D m h0] at hr
        rw [mdl_one0 D m0 ((hT wConst).trans h0)]
        exact go (fun st => (st.defn D).2) (su_defn D) (defn_le D) _ _ (1, 0, 0, 0) (by simp [MdlO.vec, addV]) (by simp [MdlO.vec, addV]) hr
      | false =>
        cases h1 : isT (St.good us).hd wFormula with
        | true =>
          rw [mdl_one1 D m h0 h1] at hr
          rw [mdl_one1 D m0 ((hT wConst).trans h0) ((hT wFormula).trans h1)]
          exact go (fun st => (st.defn D).2) (su_defn D) (defn_le D) _ _ (0, 1, 0, 0) (by simp [MdlO.vec, addV]) (by simp [MdlO.vec, addV]) hr
        | false =>
          cases h2 : isT (St.good us).hd wLabel with
          | true =>
            rw [mdl_one2 D m h0 h1 h2] at hr
            rw [mdl_one2 D m0 ((hT wConst).trans h0) ((hT wFormula).trans h1) ((hT wLabel).trans h2)]
            exact go (fun st => (st.labl D).2) (su_labl D) (labl_le D) _ _ (0, 0, 1, 0) (by simp [MdlO.vec, addV]) (by simp [MdlO.vec, addV]) hr
          | false =>
            cases h3 : isT (St.good us).hd wModule with
            | true =>
              rw [mdl_one3 D m h0 h1 h2 h3] at hr
              rw [mdl_one3 D m0 ((hT wConst).trans h0) ((hT wFormula).trans h1) ((hT wLabel).trans h2) ((hT wModule).trans h3)]
              exact go (fun st => (st.modl D).2) (su_modl D) (modl_le D) _ _ (0, 0, 0, 1) (by simp [MdlO.vec, addV]) (by simp [MdlO.vec, addV]) hr
            | false =>
              obtain ⟨c, p, hb⟩ := mdl_none D m (st := .good us) hk h0 h1 h2 h3
              rw [hb] at hr
              injection hr with _ hr
              cases hr
end Go.Proofs.YtddeplbgihcdkaaGreatDoor
end
section
namespace Go.Proofs.YtddeplbgihcdkaaGreatDoor

theorem al_same {T : List Tok} {E : Tok} (h0 : E.kind = 0) (hs : Stop (hd T)) : ∀ ini : List Tok, Al T (ini ++ [E]) (ini ++ T)
  | [] => .stop h0 hs
  | _ :: ini => .cons rfl rfl (al_same h0 hs ini)
theorem al_shift {E : Tok} (h0 : E.kind = 0) (a b : Nat) : ∀ ini : List Tok, Al [mv b E] ((ini ++ [E]).map (mv a)) ((ini ++ [E]).map (mv b))
  | [] => .stop (show (mv a E).kind = 0 from h0) (stop_end (show (hd [mv b E]).kind = 0 from h0))
  | _ :: ini => .cons rfl rfl (al_shift h0 a b ini)
theorem stop_word {t : Tok} {x : List UInt8} (h : isT t x = true) (hr : rk x = 9) : Stop t := by
  have ht := isT_text h
  refine ⟨fun k hk => ?_, ?_, ?_⟩
  · unfold sg
    rw [ht, hr]
    cases hx : (9 == k) with
    | false => simp
    | true => have : 9 = k := by simpa using hx
              omega
  · cases hx : isT t [63] with
    | false => rfl
    | true => rw [(isT_text hx).symm.trans ht |>.symm] at hr; exact absurd hr (by decide)
  · cases hx : isT t [61, 62] with
    | false => rfl
    | true => rw [(isT_text hx).symm.trans ht |>.symm] at hr; exact absurd hr (by decide)
theorem mdl_stop {D : Nat} {m mu : MdlO} {us r : List Tok} (h : (St.good us).mdlOn D m = (mu, .good r)) : Stop (hd us) := by
  by_cases hk : (hd us).kind = 0
  · exact stop_end hk
  · cases h0 : isT (hd us) wConst with
    | true => exact stop_word h0 (by decide)
    | false =>
      cases h1 : isT (hd us) wFormula with
      | true => exact stop_word h1 (by decide)
      | false =>
        cases h2 : isT (hd us) wLabel with
        | true => exact stop_word h2 (by decide)
        | false =>
          cases h3 : isT (hd us) wModule with
          | true => exact stop_word h3 (by decide)
          | false =>
            obtain ⟨c, p, hb⟩ := mdl_none D m (st := .good us) hk h0 h1 h2 h3
            rw [hb] at h
            injection h with _ h
            cases h
theorem stop_mv {t : Tok} {d : Nat} (h : Stop t) : Stop (mv d t) := h
theorem parse_mdl {D : Nat} {l : List UInt8} {m : MdlO} (h : parseM D l = .ok m) : ∃ t us r, toks l = .ok (t :: us) ∧ isT t wMdp = true ∧ (St.good us).mdlOn D mdl0 = (m, .good r) := by
  unfold parseM at h
  cases ht : toks l with
  | error x => rw [ht] at h; cases h
  | ok ts =>
    rw [ht] at h
    dsimp only at h
    cases hq : St.mdl D (.good ts) with
    | mk m' st =>
      rw [hq] at h
      cases st with
      | bad c p => cases h
      | good r =>
        injection h with h
        subst h
        unfold St.mdl at hq
        cases hi : isT (hd ts) wMdp with
        | false =>
          rw [show (St.good ts).want wMdp = .bad 20 (hd ts).pos by simp [St.want, St.hd, hi, St.fail], mdl_bad] at hq
          injection hq with _ hq
          cases hq
        | true =>
          rw [show (St.good ts).want wMdp = .good ts.tail by simp [St.want, St.hd, hi, St.tl]] at hq
          cases ts with
          | nil => exact absurd rfl (isT_kind hi)
          | cons t us => exact ⟨t, us, r, rfl, hi, hq⟩
theorem parse_of {D : Nat} {l : List UInt8} {t : Tok} {us : List Tok} (ht : toks l = .ok (t :: us)) (hi : isT t wMdp = true) : parseM D l = endM ((St.good us).mdlOn D mdl0) := by
  unfold parseM
  rw [ht]
  show endM (((St.good (t :: us)).want wMdp).mdlOn D mdl0) = _
  rw [show (St.good (t :: us)).want wMdp = .good us by simp [St.want, St.hd, hd, hi, St.tl]]
theorem mdp_toks : scanR [109, 100, 112] 0 = .ok [⟨1, wMdp, 0⟩, ⟨0, [], 3⟩] := by decide +kernel
theorem vec_zero (a b : Nat × Nat × Nat × Nat) (h : addV a mdl0.vec = addV mdl0.vec b) : a = b := by
  obtain ⟨a1, a2, a3, a4⟩ := a
  obtain ⟨b1, b2, b3, b4⟩ := b
  simpa [addV, MdlO.vec, mdl0] using h
theorem vec_zero' (a b : Nat × Nat × Nat × Nat) (h : addV a mdl0.vec = b) : a = b := by
  obtain ⟨a1, a2, a3, a4⟩ := a
  obtain ⟨b1, b2, b3, b4⟩ := b
  simpa [addV, MdlO.vec, mdl0] using h
theorem join_texts {D : Nat} {s t : List UInt8} {ma mb : MdlO} (hs : s.length ≤ 65536) (ht : t.length + 4 ≤ 65536) (ha : parseM D s = .ok ma) (hb : parseM D (109 :: 100 :: 112 :: 10 :: t) = .ok mb) : ∃ mc, parseM D (s ++ 10 :: t) = .ok mc ∧ mc.vec = addV ma.vec mb.vec := by
  obtain ⟨ta, usa, ra, h1, h2, h3⟩ := parse_mdl ha
  obtain ⟨tb, usb, rb, k1, k2, k3⟩ := parse_mdl hb
  obtain ⟨ini, e1, e2⟩ := (scan_app t s.length s 0 (Nat.le_refl _)).1 _ h1
  obtain ⟨inb, f1, f2⟩ := (scan_app t 3 [109, 100, 112] 0 (by decide)).1 _ mdp_toks
  have hinb : inb = [⟨1, wMdp, 0⟩] := by
    have : inb ++ [(⟨0, [], 3⟩ : Tok)] = [⟨1, wMdp, 0⟩] ++ [⟨0, [], 3⟩] := f1.symm
    exact (List.append_inj' this rfl).1
  subst hinb
  have k1' : onto [⟨1, wMdp, 0⟩] (scanR t 4) = .ok (tb :: usb) := f2.symm.trans k1
  have m4 := scan_mv 4 t.length t 0 (Nat.le_refl _)
  have md := scan_mv (s.length + 1) t.length t 0 (Nat.le_refl _)
  cases h0 : scanR t 0 with
  | error x =>
    rw [h0] at m4
    rw [show (0 : Nat) + 4 = 4 from rfl] at m4
    rw [m4] at k1'
    cases k1'
  | ok t0 =>
    rw [h0] at m4 md
    rw [show (0 : Nat) + 4 = 4 from rfl] at m4
    rw [m4] at k1'
    obtain ⟨in0, g1, _⟩ := (scan_app [] t.length t 0 (Nat.le_refl _)).1 _ h0
    have k4 : tb = ⟨1, wMdp, 0⟩ ∧ usb = t0.map (mv 4) := by
      simp only [onto, mvR] at k1'
      injection k1' with k1'
      injection k1' with e3 e4
      exact ⟨e3.symm, e4.symm⟩
    obtain ⟨_, rfl⟩ := k4
    have hstop : Stop (hd (t0.map (mv (s.length + 1)))) := by
      have h := mdl_stop k3
      cases t0 with
      | nil => exact h
      | cons x y => exact h
    have h2k := isT_kind h2
    cases ini with
    | nil =>
      injection e1 with e3 _
      subst e3
      exact absurd rfl h2k
    | cons x ini =>
      injection e1 with e3 e4
      subst e3
      have hfa : Fine usa := ((fine_toks hs h1).more h2k).1
      have hfb : Fine (t0.map (mv 4)) := ((fine_toks (l := 109 :: 100 :: 112 :: 10 :: t) (by simp; omega) k1).more (isT_kind k2)).1
      have hc : toks (s ++ 10 :: t) = .ok (ta :: (ini ++ t0.map (mv (s.length + 1)))) := by
        have e5 : scanR (s ++ 10 :: t) 0 = onto (ta :: ini) (scanR t (0 + s.length + 1)) := e2
        rw [show 0 + s.length + 1 = 0 + (s.length + 1) by omega, md] at e5
        exact e5
      have hal : Al (t0.map (mv (s.length + 1))) usa (ini ++ t0.map (mv (s.length + 1))) := by
        rw [e4]
        exact al_same rfl hstop ini
      obtain ⟨m1, q1, q2⟩ := mdl_ext D usa.length _ usa _ (Nat.le_refl _) hfa hal mdl0 mdl0 ma ra h3
      have hal2 : Al [mv (s.length + 1) ⟨0, [], 0 + t.length⟩] (t0.map (mv 4)) (t0.map (mv (s.length + 1))) := by
        rw [g1]
        exact al_shift rfl 4 (s.length + 1) in0
      obtain ⟨m2, q3, q4⟩ := mdl_ext D _ _ _ _ (Nat.le_refl _) hfb hal2 mdl0 m1 mb rb k3
      refine ⟨m2, ?_, ?_⟩
      · rw [parse_of hc h2, q2, q4, mdl_end D (show (St.good [mv (s.length + 1) ⟨0, [], 0 + t.length⟩]).hd.kind = 0 from rfl)]
        rfl
      · rw [← vec_zero _ _ q1]
        exact vec_zero' _ _ q3
end Go.Proofs.YtddeplbgihcdkaaGreatDoor
end
section
namespace Go.Proofs.YtddeplbgihcdkaaGreatDoor
open Go.RowKit Go.Sort

def chkM : MP → Bool
  | .ok ⟨_, _, _, [⟨_, _, [⟨_, _, b :: _, _⟩], _⟩]⟩ => b.wt == 1
  | _ => false
def chkE (n : Nat) : MP → Bool
  | .er c _ => c == n
  | _ => false
theorem chk_ex1 : chkM (parseM 9 [109, 100, 112, 32, 109, 111, 100, 117, 108, 101, 32, 109, 32, 120, 32, 58, 32, 91, 48, 46, 46, 49, 93, 59, 32, 91, 93, 32, 120, 32, 61, 32, 48, 32, 45, 62, 32, 40, 120, 39, 32, 61, 32, 49, 41, 59, 32, 101, 110, 100, 109, 111, 100, 117, 108, 101]) = true := by decide +kernel
theorem chk_ex2 : chkE 20 (parseM 9 [109, 100, 112, 32, 109, 111, 100, 117, 108, 101]) = true := by decide +kernel
theorem chkM_ok {r : MP} (h : chkM r = true) : ∃ cs fs ls nm vs act gd bs br ps p q, r = .ok ⟨cs, fs, ls, [⟨nm, vs, [⟨act, gd, ⟨1, bs, br⟩ :: ps, p⟩], q⟩]⟩ := by
  match r, h with
  | .ok ⟨cs, fs, ls, [⟨nm, vs, [⟨act, gd, b :: ps, p⟩], q⟩]⟩, h =>
    obtain ⟨wt, bs, br⟩ := b
    have hw : wt = 1 := by simpa [chkM] using h
    subst hw
    exact ⟨cs, fs, ls, nm, vs, act, gd, bs, br, ps, p, q, rfl⟩
theorem chkE_er {n : Nat} {r : MP} (h : chkE n r = true) : ∃ p, r = .er n p := by
  match r, h with
  | .er c p, h =>
    have hc : c = n := by simpa [chkE] using h
    subst hc
    exact ⟨p, rfl⟩
/-- The first part of a list in memory. -/
theorem Row.first {α : Type} {w : World} {b : Nat} {t : TypeId} {sz : Nat} {P : α → List Value → Prop} {a : α} {xs : List α} {v : Value} (h : Row w b t sz P (a :: xs) v) : ∃ g cap c, v = .slice (some ⟨g, 0, none⟩) (xs.length + 1) cap ∧ g < w.heap.size ∧ P a c ∧ ∀ (j : Nat) (u : Value), c[j]? = some u → w.cell? ⟨g, j, none⟩ = some u := by
  obtain ⟨cs, h1, c, r, hc, ha, _⟩ := h
  obtain ⟨g, cap, rfl⟩ := row_form h1 (by simp)
  refine ⟨g, cap, c, rfl, (h1.lt g rfl).2, ha, fun j u hj => ?_⟩
  have h2 := h1.cells (g := g) rfl j u (by
    rw [hc]
    have hl : j < c.length := by
      rcases Nat.lt_or_ge j c.length with hl | hl
      · exact hl
      · rw [List.getElem?_eq_none hl] at hj; cases hj
    rw [List.getElem?_append_left hl]; exact hj)
  have e : (⟨g, 0, none⟩ : Addr).add j = ⟨g, j, none⟩ := by
    unfold Addr.add
    by_cases h0 : j = 0 <;> simp [h0]
  rw [e] at h2
  exact h2
set_option maxHeartbeats 2000000 in
set_option maxRecDepth 100000 in
theorem malive_yes (w : World) (hG : GlobT w) : Calls Tryz.prog 43 #[] w (LawF w) := by
  obtain ⟨cs, fs, ls, nm, vs, act, gd, bs, br, ps, p, q, hp1⟩ := chkM_ok chk_ex1
  obtain ⟨pe, hp2⟩ := chkE_er chk_ex2
  have H1 := Lib.hid (fun (W : World) (hW : GlobT W) => mparse_any (s := ⟨#[109, 100, 112, 32, 109, 111, 100, 117, 108, 101, 32, 109, 32, 120, 32, 58, 32, 91, 48, 46, 46, 49, 93, 59, 32, 91, 93, 32, 120, 32, 61, 32, 48, 32, 45, 62, 32, 40, 120, 39, 32, 61, 32, 49, 41, 59, 32, 101, 110, 100, 109, 111, 100, 117, 108, 101]⟩) (D := 9) W hW.s (by decide) (by decide) (by decide))
  rw [show (⟨#[109, 100, 112, 32, 109, 111, 100, 117, 108, 101, 32, 109, 32, 120, 32, 58, 32, 91, 48, 46, 46, 49, 93, 59, 32, 91, 93, 32, 120, 32, 61, 32, 48, 32, 45, 62, 32, 40, 120, 39, 32, 61, 32, 49, 41, 59, 32, 101, 110, 100, 109, 111, 100, 117, 108, 101]⟩ : ByteArray).data.toList = [109, 100, 112, 32, 109, 111, 100, 117, 108, 101, 32, 109, 32, 120, 32, 58, 32, 91, 48, 46, 46, 49, 93, 59, 32, 91, 93, 32, 120, 32, 61, 32, 48, 32, 45, 62, 32, 40, 120, 39, 32, 61, 32, 49, 41, 59, 32, 101, 110, 100, 109, 111, 100, 117, 108, 101] from rfl, hp1] at H1
  have H2 := Lib.hid (fun (W : World) (hW : GlobT W) => mparse_any (s := ⟨#[109, 100, 112, 32, 109, 111, 100, 117, 108, 101]⟩) (D := 9) W hW.s (by decide) (by decide) (by decide))
  rw [show (⟨#[109, 100, 112, 32, 109, 111, 100, 117, 108, 101]⟩ : ByteArray).data.toList = [109, 100, 112, 32, 109, 111, 100, 117, 108, 101] from rfl, hp2] at H2
  have HG := Lib.hid hG
  clear hG hp1 hp2
  go_enter Tryz.func43, Tryz.ntmps43
  go_wp2_with fail
  refine (H1.out _ HG.out).mono ?_
  rintro e w1 ⟨v, rfl, hR, hb1⟩
  obtain ⟨g4, c4, d4, e4, hg4, ⟨A, ca, B, cb, rfl, _, hRc⟩, hc4⟩ := hR.r4.first
  obtain ⟨g5, c5, d5, e5, hg5, ⟨x5, A5, ca5, rfl, _, hRb⟩, hc5⟩ := hRc.first
  obtain ⟨g6, c6, d6, e6, hg6, ⟨A6, ca6, rfl, _⟩, hc6⟩ := hRb.first
  have k1 := hc4 2 _ rfl
  have k2 := hc5 6 _ rfl
  have k3 := hc6 0 _ rfl
  rw [e5] at k1
  rw [e6] at k2
  rw [e4]
  have HB1 := Lib.hid hb1
  clear hR hb1 hRc hRb hc4 hc5 hc6 e4 e5 e6
  dsimp only [MdV.v1, MdV.v2, MdV.v3]
  go_wp2_with fail
  refine calls_gen (P := fun W => W.cell? ⟨w1.heap.size, 3, none⟩ = some (.slice (some ⟨g4, 0, none⟩) 1 c4) ∧ W.cell? ⟨g4, 2, none⟩ = some (.slice (some ⟨g5, 0, none⟩) 1 c5) ∧ W.cell? ⟨g5, 6, none⟩ = some (.slice (some ⟨g6, 0, none⟩) (ps.length + 1) c6) ∧ W.cell? ⟨g6, 0, none⟩ = some (.int .i64 1) ∧ w1.heap.size < W.heap.size ∧ g4 < W.heap.size ∧ g5 < W.heap.size ∧ g6 < W.heap.size ∧ Below w.heap.size w W) ⟨by simp, by rw [World.cell?_alloc_lt _ _ ⟨g4, 2, none⟩ hg4]; exact k1, by rw [World.cell?_alloc_lt _ _ ⟨g5, 6, none⟩ hg5]; exact k2, by rw [World.cell?_alloc_lt _ _ ⟨g6, 0, none⟩ hg6]; exact k3, by simp, by simp; omega, by simp; omega, by simp; omega, HB1.out.alloc HB1.out.size _⟩ ?_
  clear k1 k2 k3 hg4 hg5 hg6 HB1
  rintro W ⟨q0, q1, q2, q3, l0, l1, l2, l3, hB⟩
  refine (H2.out W (HG.out.below hB)).mono ?_
  rintro e w2 ⟨eb, rfl, hA, hb2⟩
  have k0 : w2.cell? ⟨w1.heap.size, 3, none⟩ = some (.slice (some ⟨g4, 0, none⟩) 1 c4) := (hb2.cell (p := ⟨w1.heap.size, 3, none⟩) l0).trans q0
  have k1 : w2.cell? ⟨g4, 2, none⟩ = some (.slice (some ⟨g5, 0, none⟩) 1 c5) := (hb2.cell (p := ⟨g4, 2, none⟩) l1).trans q1
  have k2 : w2.cell? ⟨g5, 6, none⟩ = some (.slice (some ⟨g6, 0, none⟩) (ps.length + 1) c6) := (hb2.cell (p := ⟨g5, 6, none⟩) l2).trans q2
  have k3 : w2.cell? ⟨g6, 0, none⟩ = some (.int .i64 1) := (hb2.cell (p := ⟨g6, 0, none⟩) l3).trans q3
  have j0 : w1.heap.size < w2.heap.size := Nat.lt_of_lt_of_le l0 hb2.size
  have j1 : g4 < w2.heap.size := Nat.lt_of_lt_of_le l1 hb2.size
  have j2 : g5 < w2.heap.size := Nat.lt_of_lt_of_le l2 hb2.size
  have j3 : g6 < w2.heap.size := Nat.lt_of_lt_of_le l3 hb2.size
  have HB2 := Lib.hid (hB.trans (hb2.mono hB.size))
  have HA := Lib.hid hA
  clear q0 q1 q2 q3 l0 l1 l2 l3 hB hb2 hA
  go_wp2_with fail
  have hB3 := HB2.out.alloc HB2.out.size (.cells #[.slice none 0 0, .slice none 0 0, .slice none 0 0, .slice none 0 0] 81)
  refine (num_at eb _ _ _ (HG.out.below hB3).s.glob (HA.out.alloc _)).mono ?_
  rintro e w3 ⟨rfl, hb3⟩
  have HB3 := Lib.hid (hB3.trans (hb3.mono hB3.size))
  clear hb3 hB3
  go_wp2
  go_ret
  exact ⟨rfl, HB3.out⟩
end Go.Proofs.YtddeplbgihcdkaaGreatDoor
end
