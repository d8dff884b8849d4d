/-
  The law InternOwn answers true for all vectors: what was handed in, or told, may be changed, and the table has it as it was.
-/
import Derived.Test.YtoppjkdlloddmaaN0
namespace Go.Proofs.Ytoppjkdlloddmaa
open Go.RowKit

def OwnRel (w : World) (ls : List (List Int)) (xs : List Int) (b B : Nat) (i : Value) (wr : World) : Prop :=
  ∃ (k : Nat) (vs : List (List Int)), k ≤ ls.length ∧ i = .int .i64 (k : Int) ∧ Tab wr B b vs ∧ 0 < vs.length ∧ vs.getD 0 [] = xs ∧ vs.length ≤ k + 1 ∧ Below w.heap.size w wr ∧ B ≤ wr.heap.size

set_option maxHeartbeats 400000 in
theorem own_short {w : World} {ad ad' : Option Addr} {n c n' c' : Nat} (h : 64 < n ∨ n = 0 ∨ 100 < n') :
    Calls Try.prog 3 #[.slice ad n c, .slice ad' n' c'] w fun e w' => e = .returned (.bool true) ∧ Below w.heap.size w w' := by
  by_cases h1 : 64 < n
  · have hd : decide ((64 : Int) < (n : Int)) = true := by simp; omega
    clear h
    go_enter Try.func3, Try.ntmps3
    go_wp2_with fail
    refine (alive_yes _).mono ?_
    rintro e w1 ⟨rfl, hb⟩
    have HB := Lib.hid hb
    clear hb
    go_wp2_with fail
    go_ret
    exact ⟨rfl, HB.out⟩
  · have hd : decide ((64 : Int) < (n : Int)) = false := by simp; omega
    by_cases h2 : n = 0
    · have hd2 : ((n : Int) == 0) = true := by rw [beq_iff_eq]; omega
      clear h h2
      go_enter Try.func3, Try.ntmps3
      go_wp2_with fail
      refine (alive_yes _).mono ?_
      rintro e w1 ⟨rfl, hb⟩
      have HB := Lib.hid hb
      clear hb
      go_wp2_with fail
      go_ret
      exact ⟨rfl, HB.out⟩
    · have hd2 : ((n : Int) == 0) = false := by rw [beq_eq_false_iff_ne]; omega
      have hd3 : decide ((100 : Int) < (n' : Int)) = true := by simp; omega
      clear h h2
      go_enter Try.func3, Try.ntmps3
      go_wp2_with fail
      refine (alive_yes _).mono ?_
      rintro e w1 ⟨rfl, hb⟩
      have HB := Lib.hid hb
      clear hb
      go_wp2_with fail
      go_ret
      exact ⟨rfl, HB.out⟩

theorem owns_cell0 {w : World} {base n : Nat} {v : Value} {xs : List Int} (h : w.ownsRow base 21 1 v n (xs.map V32)) {g c : Nat} (hv : v = .slice (some ⟨g, 0, none⟩) n c) (hn : 0 < n) (hx : xs.length = n) :
    w.cell? ⟨g, 0, none⟩ = some (.int .i32 (xs.getD 0 0)) ∧ w.frozen? ⟨g, 0, none⟩ = false := by
  subst hv
  refine ⟨?_, h.frozenAt 0⟩
  rw [h.cellAt 0 (by omega), List.getElem?_map, List.getElem?_eq_getElem (by omega)]
  simp [V32, List.getD_eq_getElem?_getD, List.getElem?_eq_getElem (show 0 < xs.length by omega)]

theorem at_zero {w : World} {B b : Nat} {vs : List (List Int)} {xs : List Int} (h : Tab w B b vs) (hi : 0 < vs.length) (hl : vs.length ≤ 1000) (he : vs.getD 0 [] = xs) :
    Calls Try.prog 9 #[.pointer (some ⟨b, 0, none⟩), .int .i64 0] w (AtF xs w) := by
  subst he
  exact at_yes h 0 hi hl

set_option maxHeartbeats 2000000 in
set_option maxRecDepth 100000 in
theorem own_yes {w : World} {vl va : Value} {ls : List (List Int)} {xs : List Int} (hv : R32 w va xs) (hx : xs.length ≤ 9223372036854775807) (hl : RL w vl ls) :
    Calls Try.prog 3 #[va, vl] w fun e w' => e = .returned (.bool true) ∧ Below w.heap.size w w' := by
  have hv' := hv
  obtain ⟨va0, vc, rfl, hvc⟩ := hv'
  obtain ⟨ad, cap, rfl, hl⟩ := hl
  by_cases hs : 64 < xs.length ∨ xs.length = 0 ∨ 100 < ls.length
  · exact own_short hs
  obtain ⟨i0, hi0, hz⟩ := Option.map_eq_some_iff.1 infoI
  simp only [Prod.mk.injEq] at hz
  obtain ⟨hz0, hz1, hz2⟩ := hz
  have HZ0 := Lib.hid hz0
  have HZ1 := Lib.hid hz1
  have HZ2 := Lib.hid hz2
  have HI := Lib.hid hi0
  have hxl : xs.length ≤ 64 := by omega
  have hx0 : 0 < xs.length := by omega
  have hll : ls.length ≤ 100 := by omega
  have hd1 : decide ((64 : Int) < (xs.length : Int)) = false := by simp; omega
  have hd2 : ((xs.length : Int) == 0) = false := by rw [beq_eq_false_iff_ne]; omega
  have hd3 : decide ((100 : Int) < (ls.length : Int)) = false := by simp; omega
  obtain ⟨⟨vb, vo, vsp⟩, hp, hps, _⟩ := hvc 0 hx0
  simp only at hps
  subst hps hp
  have HVC := Lib.hid (show ∀ k, k < xs.length → w.cell? ⟨vb, vo + k, none⟩ = some (.int .i32 (xs.getD k 0)) from fun k hk => by
    obtain ⟨p, hp, _, hc⟩ := hvc k hk
    injection hp with hp
    subst hp
    exact hc)
  have hvlt : vb < w.heap.size := World.block_lt_of_cell? w _ (HVC.out 0 hx0)
  have HL := Lib.hid hl
  have HV := Lib.hid hv
  clear hl hv hvc hs hz0 hz1 hz2 hi0
  go_enter Try.func3, Try.ntmps3
  go_wp2_with fail
  refine (alive_yes _).mono ?_
  rintro e w1 ⟨rfl, hb1⟩
  have HB1 := Lib.hid hb1
  have hz1 := hb1.size
  clear hb1
  go_wp2_with fail
  clear hd1 hd2 hd3
  refine (new_any _).mono ?_
  rintro e w2 ⟨rfl, hw2⟩
  have HB2 := Lib.hid (show Below w.heap.size w w2 by rw [hw2]; exact HB1.out.alloc hz1 _)
  have HBK2 := Lib.hid (show Blk w2 w1.heap.size 43 #[.slice none 0 0, .slice none 0 0] by rw [hw2]; exact heap_alloc_new w1 _)
  have hz2 : w1.heap.size < w2.heap.size := by rw [hw2]; simp
  clear hw2
  generalize w1.heap.size = b at *
  go_wp2_with (at_builtin; refine wpList_append_own _ rfl _ _ 22 rfl w2.heap.size 21 i0 (.int .i32 0) 1 4 Try.underlying22 HI.out HZ0.out HZ1.out HZ2.out rfl (by decide) _ _ _ rfl (World.ownsRow_made w2 #[] 0 (Nat.le_refl _) (by unfold maxLen; omega) (by simp)) ⟨vb, vo, none⟩ xs.length vc (xs.map V32) rfl (by simp) ?c1 ?c2 ?c3 ?c4 ?c5 ?_)
  case c1 =>
    intro j u hj
    have hjl : j < xs.length := by
      rcases Nat.lt_or_ge j xs.length with h | h
      · exact h
      · rw [List.getElem?_eq_none (by simpa using h)] at hj; cases hj
    have := HVC.out j hjl
    rw [List.getElem?_map, List.getElem?_eq_getElem hjl] at hj
    simp only [Option.map_some, Option.some.injEq] at hj
    subst hj
    have hadd : (⟨vb, vo, none⟩ : Addr).add j = ⟨vb, vo + j, none⟩ := by
      by_cases hj0 : j = 0 <;> simp [Addr.add, hj0]
    rw [hadd, World.cell?_alloc_lt _ _ ⟨vb, vo + j, none⟩ (show vb < w2.heap.size by omega), HB2.out.cell (p := ⟨vb, vo + j, none⟩) hvlt, this]
    simp [V32, List.getD_eq_getElem?_getD, List.getElem?_eq_getElem hjl]
  case c2 =>
    intro u hu
    obtain ⟨x, _, rfl⟩ := List.mem_map.1 hu
    rfl
  case c3 => unfold maxLen; omega
  case c4 => omega
  case c5 => simp
  intro vm w3 hown hgrow hnil
  have hown' : w3.ownsRow w2.heap.size 21 1 vm xs.length (xs.map V32) := by simpa using hown
  obtain ⟨g, cm, hvm, hgb, hgl⟩ := hown'.form hx0
  have HBL := Lib.hid (((Below.refl w2.heap.size w2).alloc (Nat.le_refl _) (.cells #[] 21)).grown hgrow (by simp) (fun k hk => by simp [Value.ownBlock] at hk; omega))
  have hz3 := HBL.out.size
  have HB3 := Lib.hid (HB2.out.trans (HBL.out.mono (by omega)))
  have HT3 := Lib.hid (show Tab w3 w3.heap.size b [] from Tab.new ((HBL.out.block b (by omega)).trans HBK2.out))
  have HO3 := Lib.hid hown'
  clear hown hgrow hnil hown'
  subst hvm
  have HVO := Lib.hid (show Vok w3 b w3.heap.size (.slice (some ⟨g, 0, none⟩) xs.length cm) from fun a n c he _ => by
    injection he with e1
    injection e1 with e2
    subst e2
    exact .inl ⟨hgl, by show g ≠ b; omega⟩)
  go_wp2_with fail
  refine (put_any HT3.out (R32.of_owns HO3.out) HVO.out (by omega) (by simp) (Nat.le_refl _)).mono ?_
  rintro e w4 ⟨hk4, hcase⟩
  rcases hcase with ⟨i, hi, _⟩ | ⟨_, rfl, hT4⟩
  · exact absurd hi (Nat.not_lt_zero i)
  have HB4 := Lib.hid (hk4.below HB3.out (by omega) (by omega) (by omega))
  have HT4 := Lib.hid hT4
  have hz4 := hk4.size
  have HO4 := Lib.hid (owns_of HO3.out (fun g' hg' => by
    have : g = g' := by simpa [Value.ownBlock] using hg'
    subst this
    exact hk4.low g hgl hgl (by omega)))
  obtain ⟨hcm, hfm⟩ := owns_cell0 HO4.out rfl hx0 rfl
  clear hk4 hT4
  generalize hB : w3.heap.size = B at *
  have HBE := Lib.hid hB
  clear hB
  generalize xs.getD 0 0 = x0 at *
  have HTF := Lib.hid (fun u : Value => HT4.out.far (p := ⟨g, 0, none⟩) (by omega) (show g ≠ b by omega) u)
  have HBF := Lib.hid (fun u : Value => HB4.out.setCell (p := ⟨g, 0, none⟩) (show w.heap.size ≤ g by omega) u)
  go_wp2_with fail
  have HT5 := Lib.hid (HTF.out (.int .i32 (wrap32 (x0 + 1))))
  have HB5 := Lib.hid (HBF.out (.int .i32 (wrap32 (x0 + 1))))
  have hz5 : B ≤ (w4.setCell ⟨g, 0, none⟩ (.int .i32 (wrap32 (x0 + 1)))).heap.size := by simp; omega
  clear HTF HBF hcm hfm HO4 HO3 HVO
  generalize w4.setCell ⟨g, 0, none⟩ (.int .i32 (wrap32 (x0 + 1))) = w5 at *
  refine (at_zero (xs := xs) HT5.out (by simp) (by simp) rfl).mono ?_
  rintro e w6 ⟨vu, rfl, ho6, hb6⟩
  obtain ⟨gu, cu, hvu, hgu, hgul⟩ := ho6.form hx0
  obtain ⟨hcu, hfu⟩ := owns_cell0 ho6 hvu hx0 rfl
  subst hvu
  have hz6 := hb6.size
  have HTU := Lib.hid (fun u : Value => HT5.out.below (hb6.setCell (p := ⟨gu, 0, none⟩) hgu u))
  have HBU := Lib.hid (fun u : Value => HB5.out.trans ((hb6.setCell (p := ⟨gu, 0, none⟩) hgu u).mono (show w.heap.size ≤ w5.heap.size by omega)))
  have hbn : ((xs.length : Int) != (xs.length : Int)) = false := by simp
  clear ho6 hb6
  obtain ⟨y0, hy0⟩ : ∃ y0, xs.getD 0 0 = y0 := ⟨_, rfl⟩
  rw [hy0] at hcu
  clear hy0
  go_wp2_with fail
  have HT7 := Lib.hid (HTU.out (.int .i32 (wrap32 (y0 + 2))))
  have HB7 := Lib.hid (HBU.out (.int .i32 (wrap32 (y0 + 2))))
  have hz7 : B ≤ (w6.setCell ⟨gu, 0, none⟩ (.int .i32 (wrap32 (y0 + 2)))).heap.size := by simp; omega
  clear HTU HBU hcu hfu hbn
  generalize w6.setCell ⟨gu, 0, none⟩ (.int .i32 (wrap32 (y0 + 2))) = w7 at *
  go_loopw [12] (fun i wr => OwnRel w ls xs b B i wr) (fun i _ => ls.length - (intOf i).toNat)
  case atStart => exact ⟨0, [xs], Nat.zero_le _, rfl, HT7.out, by simp, rfl, by simp, HB7.out, hz7⟩
  case round =>
    obtain ⟨k, vs, hk, rfl, hT, hv0, hvg, hvl, hB, hzr⟩ := hrel
    have HT := Lib.hid hT
    have HVG := Lib.hid hvg
    have HB := Lib.hid hB
    have hzw := hB.size
    clear hT hvg hB HT7 HB7 HT5 HB5 HT4 HB4 HT3 HB3 HB2 HB1 HBL HBK2
    by_cases hlt : k < ls.length
    · have hd : decide (k < ls.length) = true := by simp; omega
      obtain ⟨⟨pb, po, ps⟩, u, hp, hps, hc, hr, hyl⟩ := HL.out k hlt
      simp only at hps hc
      subst hps
      have HHL := Lib.hid HL
      clear HL
      subst hp
      have hpl : pb < w.heap.size := World.block_lt_of_cell? w _ hc
      have hc' := (HB.out.cell (p := ⟨pb, po + k, none⟩) hpl).trans hc
      have HR := Lib.hid hr
      obtain ⟨ua, uc, hu⟩ := hr.len
      clear hc hr
      generalize ls.getD k [] = ys at *
      subst hu
      have k0 : (0 : Int) ≤ (k : Int) := by omega
      have k1 : (k : Int) < (ls.length : Int) := by omega
      by_cases hlong : ys.length ≤ 64
      · have hdl : decide ((ys.length : Int) ≤ 64) = true := by simp; omega
        go_wp2_with fail
        refine (put_any HT.out (HR.out.below HB.out) (vok_old HR.out (by omega) (by omega)) (by omega) (by omega) hzr).mono ?_
        rintro e w8 ⟨hk8, hcase⟩
        have HB8 := Lib.hid (hk8.below HB.out (by omega) (by omega) hzw)
        have hz8 : B ≤ w8.heap.size := Nat.le_trans hzr hk8.size
        clear hk8 hc'
        have hnew : ∃ vs' z f, e = .returned (.tuple #[.int .i64 z, .bool f, .nilIface]) ∧ Tab w8 B b vs' ∧ 0 < vs'.length ∧ vs'.getD 0 [] = xs ∧ vs'.length ≤ k + 1 + 1 := by
          rcases hcase with ⟨i, hi, he, rfl, hT8⟩ | ⟨hno, rfl, hT8⟩
          · exact ⟨vs, _, _, rfl, hT8, hv0, HVG.out, by omega⟩
          · exact ⟨vs ++ [ys], _, _, rfl, hT8, by simp, by rw [getD_snoc_lt vs ys 0 hv0]; exact HVG.out, by simp; omega⟩
        clear hcase
        obtain ⟨vs8, z8, f8, rfl, hT8, hv8, hvg8, hvl8⟩ := hnew
        have HT8 := Lib.hid hT8
        have HVG8 := Lib.hid hvg8
        clear hT8 hvg8
        go_wp2_with fail
        go_roundw
        case rel => exact ⟨k + 1, vs8, by omega, by go_num, HT8.out, hv8, HVG8.out, hvl8, HB8.out, hz8⟩
        case measure => simp [intOf]; omega
      · have hdl : decide ((ys.length : Int) ≤ 64) = false := by simp; omega
        go_wp2_with fail
        go_roundw
        case rel => exact ⟨k + 1, vs, by omega, by go_num, HT.out, hv0, HVG.out, by omega, HB.out, hzr⟩
        case measure => simp [intOf]; omega
    · have hd : decide (k < ls.length) = false := by simp; omega
      go_wp2_with fail
      refine (find_any HT.out (HV.out.below HB.out) hx (by omega)).mono ?_
      rintro e w8 ⟨hf, k8, rfl⟩
      have HND := Lib.hid HT.out.nodup
      rcases hf with ⟨i, hi, he, rfl⟩ | ⟨hno, _⟩
      · have hi0 : i = 0 := nodup_inj HND.out hi hv0 (he.trans HVG.out.symm)
        subst hi0
        have HT8 := Lib.hid (HT.out.drewN k8)
        have HB8 := Lib.hid (below_drewN HB.out k8)
        clear he
        generalize wr.drewN k8 = w8 at *
        go_wp2_with fail
        refine (at_zero HT8.out hv0 (by omega) HVG.out).mono ?_
        rintro e w9 ⟨vx, rfl, ho9, hb9⟩
        have HB9 := Lib.hid (HB8.out.trans (hb9.mono HB8.out.size))
        have HR9 := Lib.hid (R32.of_owns ho9)
        clear ho9 hb9 hd
        go_wp2_with fail
        refine (same_any HR9.out (HV.out.below HB9.out) (by omega) hx).mono ?_
        rintro e w10 ⟨rfl, k10, rfl⟩
        rw [decide_eq_true (rfl : xs = xs)]
        have HB10 := Lib.hid (below_drewN HB9.out k10)
        generalize w9.drewN k10 = w10 at *
        go_wp2_with fail
        go_ret
        exact ⟨rfl, HB10.out⟩
      · exact absurd HVG.out (hno 0 hv0)
end Go.Proofs.Ytoppjkdlloddmaa
