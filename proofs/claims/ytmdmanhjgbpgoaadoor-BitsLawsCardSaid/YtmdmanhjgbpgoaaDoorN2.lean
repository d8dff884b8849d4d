/-
  The law BitsLaws answers true for every size and all numbers: what was joined and taken off again is what was there less what both had, and copies are their own.
-/
import Derived.Test.YtmdmanhjgbpgoaaDoorS4
namespace Go.Proofs.YtmdmanhjgbpgoaaDoor
open Go.RowKit

theorem SetF.lt_b {w : World} {b c size : Nat} {f : Nat → Bool} (h : SetF w b c size f) : b < w.heap.size ∧ c < w.heap.size := by
  obtain ⟨ws, hw, hm⟩ := h
  exact hw.lt_b

/-- Two sets of one size lie in memory while one of them is filled. -/
def FillRel (n bs cs bt ct len : Nat) (w : World) (i : Value) (wr : World) : Prop :=
  ∃ k : Nat, k ≤ len ∧ i = .int .i64 (k : Int) ∧ Below w.heap.size w wr ∧ bt < wr.heap.size ∧ bs < wr.heap.size ∧ (∃ f, SetF wr bs cs n f) ∧ ∃ g, SetF wr bt ct n g

theorem joinF_again (f g : Nat → Bool) (n j : Nat) : joinF (joinF f g n) g n j = joinF f g n j := by unfold joinF; cases f j <;> cases g j <;> cases decide (j < n) <;> rfl
theorem joinF_back (f g : Nat → Bool) (n j : Nat) (hj : j < n) : joinF (joinF f g n) f n j = joinF f g n j := by unfold joinF; cases f j <;> cases g j <;> simp [hj]

set_option maxHeartbeats 400000 in
theorem bitsLaws_long {w : World} (s : Int) {ad bd : Option Addr} {la lb ca cb : Nat} (hG : Glob w) (hl : 200 < la ∨ 200 < lb) :
    Calls Tryd.prog 4 #[.int .u8 s, .slice ad la ca, .slice bd lb cb] w fun e w' => e = .returned (.bool true) ∧ Below w.heap.size w w' := by
  have HG := Lib.hid hG
  clear hG
  by_cases ha : 200 < la
  · clear hl
    go_enter Tryd.func4, Tryd.ntmps4
    go_wp2_with fail
    refine (alive_yes _ HG.out).mono ?_
    rintro e w1 ⟨rfl, hb⟩
    have HB := Lib.hid hb
    clear hb
    go_wp2_with fail
    go_ret
    exact ⟨rfl, HB.out⟩
  · have hb2 : 200 < lb := by omega
    have hd : decide ((200 : Int) < (la : Int)) = false := by simp; omega
    clear hl
    go_enter Tryd.func4, Tryd.ntmps4
    go_wp2_with fail
    refine (alive_yes _ HG.out).mono ?_
    rintro e w1 ⟨rfl, hb⟩
    have HB := Lib.hid hb
    clear hb
    go_wp2_with fail
    go_ret
    exact ⟨rfl, HB.out⟩

set_option maxHeartbeats 4000000 in
set_option maxRecDepth 100000 in
theorem bitsLaws_yes {w : World} (m : Nat) {va vb : Value} {xs ys : List Int} (hm : m ≤ 255) (hG : Glob w) (hva : Reads8 w va xs) (hvb : Reads8 w vb ys) :
    Calls Tryd.prog 4 #[.int .u8 (m : Int), va, vb] w fun e w' => e = .returned (.bool true) ∧ Below w.heap.size w w' := by
  obtain ⟨ad, ca, rfl, ha, ha8⟩ := hva
  obtain ⟨bd, cb, rfl, hb, hb8⟩ := hvb
  by_cases hbig : 200 < xs.length ∨ 200 < ys.length
  · exact bitsLaws_long _ hG hbig
  have hxl : xs.length ≤ 200 := by omega
  have hyl : ys.length ≤ 200 := by omega
  have hd1 : decide ((200 : Int) < (xs.length : Int)) = false := by simp; omega
  have hd2 : decide ((200 : Int) < (ys.length : Int)) = false := by simp; omega
  have HA := Lib.hid ha
  have HA8 := Lib.hid ha8
  have HBB := Lib.hid hb
  have HB8 := Lib.hid hb8
  have HG := Lib.hid hG
  have en : ((m : Int) + 1).toNat = m + 1 := by omega
  have EN := Lib.hid en
  clear ha ha8 hb hb8 hbig hG en
  go_enter Tryd.func4, Tryd.ntmps4
  go_wp2_with fail
  refine (alive_yes _ HG.out).mono ?_
  rintro e w1 ⟨rfl, hb1⟩
  have HB1 := Lib.hid hb1
  have hz1 := hb1.size
  clear hb1
  go_wp2_with fail
  clear hd1 hd2
  refine (new_int _ _ (by omega) (by omega)).mono ?_
  rintro e w2 ⟨rfl, hw2⟩
  rw [EN.out] at hw2
  have hs := new_set w1 (m + 1) (by omega)
  have hn := newW_below w1 (m + 1)
  have hz2 := newW_size w1 (m + 1)
  rw [← hw2] at hs hn hz2
  have HS := Lib.hid hs
  have HB2 := Lib.hid (HB1.out.trans (hn.mono hz1))
  have hz2a : w1.heap.size + 2 ≤ w2.heap.size := by omega
  clear hw2 hs hn hz2
  go_wp2_with fail
  refine (new_int _ _ (by omega) (by omega)).mono ?_
  rintro e w3 ⟨rfl, hw3⟩
  rw [EN.out] at hw3
  have ht := new_set w2 (m + 1) (by omega)
  have hn := newW_below w2 (m + 1)
  have hz3 := newW_size w2 (m + 1)
  rw [← hw3] at ht hn hz3
  have HT := Lib.hid ht
  have HS2 := Lib.hid (HS.out.below hn)
  have HB3 := Lib.hid (HB2.out.trans (hn.mono (by omega)))
  have hz3a : w2.heap.size + 2 ≤ w3.heap.size := by omega
  clear hw3 ht hn hz3 HS
  generalize hcs : w1.heap.size = cs at *
  generalize hct : w2.heap.size = ct at *
  have HCS := Lib.hid hcs
  have HCT := Lib.hid hct
  clear hcs hct
  go_wp2_with fail
  go_loopw [12] (fun i wr => FillRel (m + 1) (cs + 1) cs (ct + 1) ct xs.length w i wr) (fun i _ => xs.length - (intOf i).toNat)
  case atStart => exact ⟨0, Nat.zero_le _, rfl, HB3.out, by omega, by omega, ⟨_, HS2.out⟩, ⟨_, HT.out⟩⟩
  case round =>
    obtain ⟨k, hk, rfl, hbel, hlt1, hlt2, ⟨f, hf⟩, ⟨g, hg⟩⟩ := hrel
    have HBR := Lib.hid hbel
    have HF := Lib.hid hf
    have HGG := Lib.hid hg
    have hbs := hbel.size
    clear hbel hf hg
    by_cases hlt : k < xs.length
    · obtain ⟨⟨pb, po, ps⟩, hp, hps, hc⟩ := HA.out k hlt
      simp only at hps hc
      subst hps
      have hpb := World.block_lt_of_cell? w _ hc
      have hc' := (HBR.out.cell (p := ⟨pb, po + k, none⟩) hpb).trans hc
      have h8 := HA8.out k
      obtain ⟨h80, h81⟩ := h8
      clear hc
      generalize xs.getD k 0 = x at *
      have HHA := Lib.hid HA
      clear HA
      subst hp
      have k0 : (0 : Int) ≤ (k : Int) := by omega
      have k1 : (k : Int) < (xs.length : Int) := by omega
      go_wp2_with fail
      refine (add_set HF.out _).mono ?_
      rintro e wx ⟨rfl, ho, hset⟩
      have HO := Lib.hid ho
      have HSX := Lib.hid hset
      have hgz := ho.size
      clear ho hset
      go_wp2
      go_roundw
      case rel => exact ⟨k + 1, by omega, by go_num, below_only HBR.out HO.out hbs (by omega), by omega, by omega, ⟨_, HSX.out⟩, ⟨_, HGG.out.only HO.out (by omega) (by omega)⟩⟩
      case measure => simp [intOf]; omega
    · have hd : decide (k < xs.length) = false := by simp; omega
      have HF1 := HF
      have HG1 := HGG
      have HB4 := HBR
      clear HF HGG HBR HS2 HT HB3
      go_wp2_with fail
      generalize wr = w4 at *
      clear hd
      go_loopw [13] (fun i wr => FillRel (m + 1) (cs + 1) cs (ct + 1) ct ys.length w i wr) (fun i _ => ys.length - (intOf i).toNat)
      case atStart => exact ⟨0, Nat.zero_le _, rfl, HB4.out, by omega, by omega, ⟨_, HF1.out⟩, ⟨_, HG1.out⟩⟩
      case round =>
        clear HF1 HG1 HB4
        obtain ⟨k2, hk2, rfl, hbel, hlt1, hlt2, ⟨f, hf⟩, ⟨g, hg⟩⟩ := hrel
        have HBR := Lib.hid hbel
        have HF := Lib.hid hf
        have HGG := Lib.hid hg
        have hbs := hbel.size
        clear hbel hf hg
        by_cases hlt : k2 < ys.length
        · obtain ⟨⟨pb, po, ps⟩, hp, hps, hc⟩ := HBB.out k2 hlt
          simp only at hps hc
          subst hps
          have hpb := World.block_lt_of_cell? w _ hc
          have hc' := (HBR.out.cell (p := ⟨pb, po + k2, none⟩) hpb).trans hc
          have h8 := HB8.out k2
          obtain ⟨h80, h81⟩ := h8
          clear hc
          generalize ys.getD k2 0 = x at *
          have HHA := Lib.hid HBB
          clear HBB
          subst hp
          have k0 : (0 : Int) ≤ (k2 : Int) := by omega
          have k1 : (k2 : Int) < (ys.length : Int) := by omega
          go_wp2_with fail
          refine (add_set HGG.out _).mono ?_
          rintro e wx ⟨rfl, ho, hset⟩
          have HO := Lib.hid ho
          have HSX := Lib.hid hset
          have hgz := ho.size
          clear ho hset
          go_wp2
          go_roundw
          case rel => exact ⟨k2 + 1, by omega, by go_num, below_only HBR.out HO.out hbs (by omega), by omega, by omega, ⟨_, HF.out.only HO.out (by omega) (by omega)⟩, ⟨_, HSX.out⟩⟩
          case measure => simp [intOf]; omega
        · have hd : decide (k2 < ys.length) = false := by simp; omega
          go_wp2_with fail
          clear hd
          generalize wr = w5 at *
          refine (copy_set HF.out).mono ?_
          rintro e w6 ⟨bW, cW, rfl, hbW, hcW, hset, hbel⟩
          have HS1 := Lib.hid (HF.out.below hbel)
          clear HF
          have HT2 := Lib.hid (HGG.out.below hbel)
          clear HGG
          have HB103 := Lib.hid (HBR.out.trans (hbel.mono (by omega)))
          clear HBR
          have hzw6 := hbel.size
          have HW := Lib.hid hset
          have hlW := hset.lt_b
          obtain ⟨hlbW, hlcW⟩ := hlW
          clear hset hbel
          go_wp2_with fail
          refine (copy_set HS1.out).mono ?_
          rintro e w7 ⟨bB, cB, rfl, hbB, hcB, hset, hbel⟩
          have HS4 := Lib.hid (HS1.out.below hbel)
          clear HS1
          have HT5 := Lib.hid (HT2.out.below hbel)
          clear HT2
          have HW6 := Lib.hid (HW.out.below hbel)
          clear HW
          have HB107 := Lib.hid (HB103.out.trans (hbel.mono (by omega)))
          clear HB103
          have hzw7 := hbel.size
          have HB := Lib.hid hset
          have hlB := hset.lt_b
          obtain ⟨hlbB, hlcB⟩ := hlB
          clear hset hbel
          go_wp2_with fail
          refine (meet_set HB.out (.inr ⟨ct + 1, ct, _, rfl, HT5.out, by omega, by omega⟩)).mono ?_
          rintro e w8 ⟨rfl, ho, hset⟩
          obtain ⟨mm, hmm, hset⟩ : ∃ fx : Nat → Bool, (∀ j, j < m + 1 → fx j = (f j && g j)) ∧ SetF w8 (bB) (cB) (m + 1) fx := ⟨_, fun j hj => by simp [meetF, hj], hset⟩
          have Kmm := Lib.hid hmm
          clear hmm
          have HS8 := Lib.hid (HS4.out.only ho (by omega) (by omega))
          clear HS4
          have HT9 := Lib.hid (HT5.out.only ho (by omega) (by omega))
          clear HT5
          have HW10 := Lib.hid (HW6.out.only ho (by omega) (by omega))
          clear HW6
          have HB11 := Lib.hid hset
          clear HB
          have HB112 := Lib.hid (below_only HB107.out ho (by omega) (by omega))
          clear HB107
          have hzw8 := ho.size
          clear hset ho
          go_wp2_with fail
          refine (join_set HS8.out (.inr ⟨ct + 1, ct, _, rfl, HT9.out, by omega, by omega⟩)).mono ?_
          rintro e w9 ⟨rfl, ho, hset⟩
          obtain ⟨u1, hu1, hset⟩ : ∃ fx : Nat → Bool, (∀ j, j < m + 1 → fx j = (f j || g j)) ∧ SetF w9 (cs + 1) (cs) (m + 1) fx := ⟨_, fun j hj => by simp [joinF, hj], hset⟩
          have Ku1 := Lib.hid hu1
          clear hu1
          have HT13 := Lib.hid (HT9.out.only ho (by omega) (by omega))
          clear HT9
          have HW14 := Lib.hid (HW10.out.only ho (by omega) (by omega))
          clear HW10
          have HB15 := Lib.hid (HB11.out.only ho (by omega) (by omega))
          clear HB11
          have HS16 := Lib.hid hset
          clear HS8
          have HB117 := Lib.hid (below_only HB112.out ho (by omega) (by omega))
          clear HB112
          have hzw9 := ho.size
          clear hset ho
          go_wp2_with fail
          have hcc := its_two (m + 1) f g u1 mm Ku1.out Kmm.out
          have hcu := its_le (m + 1) u1
          have hcf := its_le (m + 1) f
          have hcg := its_le (m + 1) g
          have hcm := its_le (m + 1) mm
          generalize hLu : (its (m + 1) u1).length = Lu at *
          generalize hLf : (its (m + 1) f).length = Lf at *
          generalize hLg : (its (m + 1) g).length = Lg at *
          generalize hLm : (its (m + 1) mm).length = Lm at *
          have hc1 : Lu + Lm ≤ Lf + Lg := by omega
          have hc2 : Lf + Lg ≤ Lu + Lm := by omega
          have HLu := Lib.hid hLu
          have HLf := Lib.hid hLf
          have HLg := Lib.hid hLg
          have HLm := Lib.hid hLm
          clear hcc hLu hLf hLg hLm
          refine (count_set HS16.out).mono ?_
          rintro e wq ⟨rfl, hwq⟩
          rw [hwq, HLu.out]
          clear hwq wq
          go_wp2_with fail
          refine (count_set HW14.out).mono ?_
          rintro e wq ⟨rfl, hwq⟩
          rw [hwq, HLf.out]
          clear hwq wq
          go_wp2_with fail
          refine (count_set HT13.out).mono ?_
          rintro e wq ⟨rfl, hwq⟩
          rw [hwq, HLg.out]
          clear hwq wq
          go_wp2_with fail
          refine (count_set HB15.out).mono ?_
          rintro e wq ⟨rfl, hwq⟩
          rw [hwq, HLm.out]
          clear hwq wq
          go_wp2_with fail
          refine (join_set HS16.out (.inr ⟨ct + 1, ct, _, rfl, HT13.out, by omega, by omega⟩)).mono ?_
          rintro e w10 ⟨rfl, ho, hset⟩
          rw [show chgF (m + 1) u1 (joinF u1 g (m + 1)) = false from chgF_false.2 (fun j hj => by simp only [joinF, hj, Ku1.out j hj]; cases f j <;> cases g j <;> rfl)]
          obtain ⟨u2, hu2, hset⟩ : ∃ fx : Nat → Bool, (∀ j, j < m + 1 → fx j = (f j || g j)) ∧ SetF w10 (cs + 1) (cs) (m + 1) fx := ⟨_, fun j hj => by simp only [joinF, hj, Ku1.out j hj]; cases f j <;> cases g j <;> rfl, hset⟩
          have Ku2 := Lib.hid hu2
          clear hu2
          have HT18 := Lib.hid (HT13.out.only ho (by omega) (by omega))
          clear HT13
          have HW19 := Lib.hid (HW14.out.only ho (by omega) (by omega))
          clear HW14
          have HB20 := Lib.hid (HB15.out.only ho (by omega) (by omega))
          clear HB15
          have HS21 := Lib.hid hset
          clear HS16
          have HB122 := Lib.hid (below_only HB117.out ho (by omega) (by omega))
          clear HB117
          have hzw10 := ho.size
          clear hset ho
          go_wp2_with fail
          refine (join_set HS21.out (.inr ⟨bW, cW, _, rfl, HW19.out, by omega, by omega⟩)).mono ?_
          rintro e w11 ⟨rfl, ho, hset⟩
          rw [show chgF (m + 1) u2 (joinF u2 f (m + 1)) = false from chgF_false.2 (fun j hj => by simp only [joinF, hj, Ku2.out j hj]; cases f j <;> cases g j <;> rfl)]
          obtain ⟨u3, hu3, hset⟩ : ∃ fx : Nat → Bool, (∀ j, j < m + 1 → fx j = (f j || g j)) ∧ SetF w11 (cs + 1) (cs) (m + 1) fx := ⟨_, fun j hj => by simp only [joinF, hj, Ku2.out j hj]; cases f j <;> cases g j <;> rfl, hset⟩
          have Ku3 := Lib.hid hu3
          clear hu3
          have HT23 := Lib.hid (HT18.out.only ho (by omega) (by omega))
          clear HT18
          have HW24 := Lib.hid (HW19.out.only ho (by omega) (by omega))
          clear HW19
          have HB25 := Lib.hid (HB20.out.only ho (by omega) (by omega))
          clear HB20
          have HS26 := Lib.hid hset
          clear HS21
          have HB127 := Lib.hid (below_only HB122.out ho (by omega) (by omega))
          clear HB122
          have hzw11 := ho.size
          clear hset ho
          go_wp2_with fail
          refine (minus_set HS26.out (.inr ⟨ct + 1, ct, _, rfl, HT23.out, by omega, by omega⟩)).mono ?_
          rintro e w12 ⟨rfl, ho, hset⟩
          obtain ⟨aa, haa, hset⟩ : ∃ fx : Nat → Bool, (∀ j, j < m + 1 → fx j = (f j && !g j)) ∧ SetF w12 (cs + 1) (cs) (m + 1) fx := ⟨_, fun j hj => by simp only [minusF, hj, Ku3.out j hj]; cases f j <;> cases g j <;> rfl, hset⟩
          have Kaa := Lib.hid haa
          clear haa
          have HT28 := Lib.hid (HT23.out.only ho (by omega) (by omega))
          clear HT23
          have HW29 := Lib.hid (HW24.out.only ho (by omega) (by omega))
          clear HW24
          have HB30 := Lib.hid (HB25.out.only ho (by omega) (by omega))
          clear HB25
          have HS31 := Lib.hid hset
          clear HS26
          have HB132 := Lib.hid (below_only HB127.out ho (by omega) (by omega))
          clear HB127
          have hzw12 := ho.size
          clear hset ho
          go_wp2_with fail
          refine (minus_set HW29.out (.inr ⟨bB, cB, _, rfl, HB30.out, by omega, by omega⟩)).mono ?_
          rintro e w13 ⟨rfl, ho, hset⟩
          obtain ⟨bb, hbb, hset⟩ : ∃ fx : Nat → Bool, (∀ j, j < m + 1 → fx j = (f j && !g j)) ∧ SetF w13 (bW) (cW) (m + 1) fx := ⟨_, fun j hj => by simp only [minusF, hj, Kmm.out j hj]; cases f j <;> cases g j <;> rfl, hset⟩
          have Kbb := Lib.hid hbb
          clear hbb
          have HS33 := Lib.hid (HS31.out.only ho (by omega) (by omega))
          clear HS31
          have HT34 := Lib.hid (HT28.out.only ho (by omega) (by omega))
          clear HT28
          have HB35 := Lib.hid (HB30.out.only ho (by omega) (by omega))
          clear HB30
          have HW36 := Lib.hid hset
          clear HW29
          have HB137 := Lib.hid (below_only HB132.out ho (by omega) (by omega))
          clear HB132
          have hzw13 := ho.size
          clear hset ho
          go_wp2_with fail
          refine (same_set HS33.out HW36.out).mono ?_
          rintro e wq ⟨rfl, kq, rfl⟩
          rw [show (decide (m + 1 = m + 1) && !chgF (m + 1) aa bb) = true from by rw [chgF_false.2 (fun j hj => (Kaa.out j hj).trans (Kbb.out j hj).symm)]; simp]
          have HS38 := Lib.hid (HS33.out.drewN kq)
          clear HS33
          have HT39 := Lib.hid (HT34.out.drewN kq)
          clear HT34
          have HW40 := Lib.hid (HW36.out.drewN kq)
          clear HW36
          have HB41 := Lib.hid (HB35.out.drewN kq)
          clear HB35
          have HB142 := Lib.hid (below_drewN HB137.out kq)
          clear HB137
          have hzw14 : w13.heap.size ≤ (w13.drewN kq).heap.size := Nat.le_refl _
          generalize w13.drewN kq = w14 at *
          go_wp2_with fail
          refine (same_set HW40.out HS38.out).mono ?_
          rintro e wq ⟨rfl, kq, rfl⟩
          rw [show (decide (m + 1 = m + 1) && !chgF (m + 1) bb aa) = true from by rw [chgF_false.2 (fun j hj => (Kbb.out j hj).trans (Kaa.out j hj).symm)]; simp]
          have HS43 := Lib.hid (HS38.out.drewN kq)
          clear HS38
          have HT44 := Lib.hid (HT39.out.drewN kq)
          clear HT39
          have HW45 := Lib.hid (HW40.out.drewN kq)
          clear HW40
          have HB46 := Lib.hid (HB41.out.drewN kq)
          clear HB41
          have HB147 := Lib.hid (below_drewN HB142.out kq)
          clear HB142
          have hzw15 : w14.heap.size ≤ (w14.drewN kq).heap.size := Nat.le_refl _
          generalize w14.drewN kq = w15 at *
          go_wp2_with fail
          refine (minus_set HS43.out (.inr ⟨ct + 1, ct, _, rfl, HT44.out, by omega, by omega⟩)).mono ?_
          rintro e w16 ⟨rfl, ho, hset⟩
          rw [show chgF (m + 1) aa (minusF aa g (m + 1)) = false from chgF_false.2 (fun j hj => by simp only [minusF, hj, Kaa.out j hj]; cases f j <;> cases g j <;> rfl)]
          obtain ⟨a2, ha2, hset⟩ : ∃ fx : Nat → Bool, (∀ j, j < m + 1 → fx j = (f j && !g j)) ∧ SetF w16 (cs + 1) (cs) (m + 1) fx := ⟨_, fun j hj => by simp only [minusF, hj, Kaa.out j hj]; cases f j <;> cases g j <;> rfl, hset⟩
          have Ka2 := Lib.hid ha2
          clear ha2
          have HT48 := Lib.hid (HT44.out.only ho (by omega) (by omega))
          clear HT44
          have HW49 := Lib.hid (HW45.out.only ho (by omega) (by omega))
          clear HW45
          have HB50 := Lib.hid (HB46.out.only ho (by omega) (by omega))
          clear HB46
          have HS51 := Lib.hid hset
          clear HS43
          have HB152 := Lib.hid (below_only HB147.out ho (by omega) (by omega))
          clear HB147
          have hzw16 := ho.size
          clear hset ho
          go_wp2_with fail
          refine (copy_set HS51.out).mono ?_
          rintro e w17 ⟨bC, cC, rfl, hbC, hcC, hset, hbel⟩
          have HS53 := Lib.hid (HS51.out.below hbel)
          clear HS51
          have HT54 := Lib.hid (HT48.out.below hbel)
          clear HT48
          have HW55 := Lib.hid (HW49.out.below hbel)
          clear HW49
          have HB56 := Lib.hid (HB50.out.below hbel)
          clear HB50
          have HB157 := Lib.hid (HB152.out.trans (hbel.mono (by omega)))
          clear HB152
          have hzw17 := hbel.size
          have HC := Lib.hid hset
          have hlC := hset.lt_b
          obtain ⟨hlbC, hlcC⟩ := hlC
          clear hset hbel
          go_wp2_with fail
          refine (add_set HC.out _).mono ?_
          rintro e w18 ⟨rfl, ho, hset⟩
          have HS58 := Lib.hid (HS53.out.only ho (by omega) (by omega))
          clear HS53
          have HT59 := Lib.hid (HT54.out.only ho (by omega) (by omega))
          clear HT54
          have HW60 := Lib.hid (HW55.out.only ho (by omega) (by omega))
          clear HW55
          have HB61 := Lib.hid (HB56.out.only ho (by omega) (by omega))
          clear HB56
          have HC62 := Lib.hid hset
          clear HC
          have HB163 := Lib.hid (below_only HB157.out ho (by omega) (by omega))
          clear HB157
          have hzw18 := ho.size
          clear hset ho
          go_wp2_with fail
          refine (del_set HC62.out _).mono ?_
          rintro e w19 ⟨rfl, ho, hset⟩
          have HS64 := Lib.hid (HS58.out.only ho (by omega) (by omega))
          clear HS58
          have HT65 := Lib.hid (HT59.out.only ho (by omega) (by omega))
          clear HT59
          have HW66 := Lib.hid (HW60.out.only ho (by omega) (by omega))
          clear HW60
          have HB67 := Lib.hid (HB61.out.only ho (by omega) (by omega))
          clear HB61
          have HC68 := Lib.hid hset
          clear HC62
          have HB169 := Lib.hid (below_only HB163.out ho (by omega) (by omega))
          clear HB163
          have hzw19 := ho.size
          clear hset ho
          go_wp2_with fail
          refine (new_int _ _ (by omega) (by omega)).mono ?_
          rintro e w20 ⟨rfl, hw2⟩
          rw [show ((m : Int) + 1 + 1).toNat = m + 1 + 1 by omega] at hw2
          have hset := new_set w19 (m + 1 + 1) (by omega)
          have hbel := newW_below w19 (m + 1 + 1)
          rw [← hw2] at hset hbel
          clear hw2
          have HS70 := Lib.hid (HS64.out.below hbel)
          clear HS64
          have HT71 := Lib.hid (HT65.out.below hbel)
          clear HT65
          have HW72 := Lib.hid (HW66.out.below hbel)
          clear HW66
          have HB73 := Lib.hid (HB67.out.below hbel)
          clear HB67
          have HC74 := Lib.hid (HC68.out.below hbel)
          clear HC68
          have HB175 := Lib.hid (HB169.out.trans (hbel.mono (by omega)))
          clear HB169
          have hzw20 := hbel.size
          have HX := Lib.hid hset
          clear hset hbel
          go_wp2_with fail
          refine (same_set HS70.out HW72.out).mono ?_
          rintro e wq ⟨rfl, kq, rfl⟩
          rw [show (decide (m + 1 = m + 1) && !chgF (m + 1) a2 bb) = true from by rw [chgF_false.2 (fun j hj => (Ka2.out j hj).trans (Kbb.out j hj).symm)]; simp]
          have HS76 := Lib.hid (HS70.out.drewN kq)
          clear HS70
          have HT77 := Lib.hid (HT71.out.drewN kq)
          clear HT71
          have HW78 := Lib.hid (HW72.out.drewN kq)
          clear HW72
          have HB79 := Lib.hid (HB73.out.drewN kq)
          clear HB73
          have HC80 := Lib.hid (HC74.out.drewN kq)
          clear HC74
          have HX81 := Lib.hid (HX.out.drewN kq)
          clear HX
          have HB182 := Lib.hid (below_drewN HB175.out kq)
          clear HB175
          have hzw21 : w20.heap.size ≤ (w20.drewN kq).heap.size := Nat.le_refl _
          generalize w20.drewN kq = w21 at *
          go_wp2_with fail
          refine (same_set HX81.out HT77.out).mono ?_
          rintro e wq ⟨rfl, kq, rfl⟩
          rw [show (decide (m + 1 + 1 = m + 1) && !chgF (m + 1 + 1) (fun _ => false) g) = false from by simp]
          have HS83 := Lib.hid (HS76.out.drewN kq)
          clear HS76
          have HT84 := Lib.hid (HT77.out.drewN kq)
          clear HT77
          have HW85 := Lib.hid (HW78.out.drewN kq)
          clear HW78
          have HB86 := Lib.hid (HB79.out.drewN kq)
          clear HB79
          have HC87 := Lib.hid (HC80.out.drewN kq)
          clear HC80
          have HX88 := Lib.hid (HX81.out.drewN kq)
          clear HX81
          have HB189 := Lib.hid (below_drewN HB182.out kq)
          clear HB182
          have hzw22 : w21.heap.size ≤ (w21.drewN kq).heap.size := Nat.le_refl _
          generalize w21.drewN kq = w22 at *
          go_wp2_with fail
          refine (same_no _ _).mono ?_
          rintro e wq ⟨rfl, hwq⟩
          rw [hwq]
          clear hwq wq
          go_wp2
          go_ret
          exact ⟨rfl, HB189.out⟩
end Go.Proofs.YtmdmanhjgbpgoaaDoor
