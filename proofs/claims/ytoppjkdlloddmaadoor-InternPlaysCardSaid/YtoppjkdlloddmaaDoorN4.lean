/-
  The law InternPlays answers true for all vectors and any number: what they are numbered, found and told as.
-/
import Derived.Test.YtoppjkdlloddmaaDoorR1
import Derived.Test.YtoppjkdlloddmaaDoorA3
namespace Go.Proofs.YtoppjkdlloddmaaDoor
open Go.RowKit

theorem infoV : (Tryd.prog.info? 26).map (fun i => (i.zero, i.size, i.bytes)) = some (some (.slice none 0 0), 1, 24) := by kernel_rfl

def PlaysRel (w : World) (ls : List (List Int)) (b : Nat) (m i : Value) (wr : World) : Prop :=
  ∃ (k : Nat) (vs : List (List Int)), k ≤ ls.length ∧ i = .int .i64 (k : Int) ∧ Tab wr b b vs ∧ vs.length ≤ k ∧ Mine w wr b m vs ∧ Below w.heap.size w wr ∧ b ≤ wr.heap.size

set_option maxHeartbeats 400000 in
theorem plays_long {w : World} {ad : Option Addr} {n c : Nat} (i : Value) (hn : 200 < n) :
    Calls Tryd.prog 3 #[.slice ad n c, i] w fun e w' => e = .returned (.bool true) ∧ Below w.heap.size w w' := by
  have hd : decide ((200 : Int) < (n : Int)) = true := by simp; omega
  go_enter Tryd.func3, Tryd.ntmps3
  go_wp2_with fail
  refine (alive_yes _).mono ?_
  rintro e w1 ⟨rfl, hb⟩
  have HB := Lib.hid hb
  clear hb
  go_wp2_with fail
  go_ret
  exact ⟨rfl, HB.out⟩

theorem Tab.short {w : World} {B b : Nat} {vs : List (List Int)} (h : Tab w B b vs) (j : Nat) : (vs.getD j []).length ≤ 64 := by
  obtain ⟨m, ev, hv, vl, nx, hs, _, _, _, _, _, h1⟩ := h
  exact h1 j
theorem at_is {w : World} {B b : Nat} {vs : List (List Int)} {xs : List Int} (h : Tab w B b vs) (i : Nat) (hi : i < vs.length) (hl : vs.length ≤ 1000) (he : vs.getD i [] = xs) :
    Calls Tryd.prog 11 #[.pointer (some ⟨b, 0, none⟩), .int .i64 (i : Int)] w (AtF xs w) := by
  subst he
  exact at_yes h i hi hl

set_option maxHeartbeats 4000000 in
set_option maxRecDepth 100000 in
theorem plays_yes {w : World} {vl : Value} {ls : List (List Int)} (n : Int) (hG : Glob w) (hl : RL w vl ls) :
    Calls Tryd.prog 3 #[vl, .int .i64 n] w fun e w' => e = .returned (.bool true) ∧ Below w.heap.size w w' := by
  obtain ⟨ad, cap, rfl, hl⟩ := hl
  by_cases hbig : 200 < ls.length
  · exact plays_long _ hbig
  obtain ⟨i0, hi0, hz⟩ := Option.map_eq_some_iff.1 infoV
  simp only [Prod.mk.injEq] at hz
  obtain ⟨hz0, hz1, hz2⟩ := hz
  have HZ0 := Lib.hid hz0
  have HZ1 := Lib.hid hz1
  have HZ2 := Lib.hid hz2
  have HI := Lib.hid hi0
  have hll : ls.length ≤ 200 := by omega
  have hd : decide ((200 : Int) < (ls.length : Int)) = false := by simp; omega
  have HL := Lib.hid hl
  have HG := Lib.hid hG
  clear hl hbig hG hz0 hz1 hz2 hi0
  go_enter Tryd.func3, Tryd.ntmps3
  go_wp2_with fail
  refine (alive_yes _).mono ?_
  rintro e w1 ⟨rfl, hb1⟩
  have HB1 := Lib.hid hb1
  have hz1 := hb1.size
  clear hb1
  go_wp2_with fail
  clear hd
  refine (new_any _).mono ?_
  rintro e w2 ⟨rfl, hw2⟩
  have HB2 := Lib.hid (show Below w.heap.size w w2 by rw [hw2]; exact HB1.out.alloc hz1 _)
  have HT2 := Lib.hid (show Tab w2 w1.heap.size w1.heap.size [] from Tab.new (by rw [hw2]; exact heap_alloc_new w1 _))
  have hz2 : w1.heap.size ≤ w2.heap.size := by rw [hw2]; simp
  clear hw2
  generalize w1.heap.size = b at *
  go_wp2_with fail
  go_loopw [6, 7] (fun m i wr => PlaysRel w ls b m i wr) (fun _ i _ => ls.length - (intOf i).toNat)
  case atStart => exact ⟨0, [], Nat.zero_le _, rfl, HT2.out, Nat.zero_le _, Mine.nil _ _ _, HB2.out, hz2⟩
  case round =>
    obtain ⟨k, vs, hk, rfl, hT, hvl, hM, hB, hzr⟩ := hrel
    have HT := Lib.hid hT
    have HM := Lib.hid hM
    have HB := Lib.hid hB
    have HND := Lib.hid hT.nodup
    have hzw := hB.size
    have hms : ∃ am cm, u6 = .slice am vs.length cm := by
      obtain ⟨ml, ho, _⟩ := hM
      exact owns_slice ho
    obtain ⟨am, cm, hm6⟩ := hms
    clear hT hM hB HT2 HB2 HB1
    subst hm6
    by_cases hlt : k < ls.length
    · have hd : decide (k < ls.length) = true := by simp; omega
      obtain ⟨⟨pb, po, ps⟩, u, hp, hps, hc, hr, hyl⟩ := HL.out k hlt
      simp only at hps hc
      subst hps
      have HHL := Lib.hid HL
      clear HL
      subst hp
      have hpl : pb < w.heap.size := World.block_lt_of_cell? w _ hc
      have HC := Lib.hid hc
      have hc' := (HB.out.cell (p := ⟨pb, po + k, none⟩) hpl).trans hc
      have HR := Lib.hid hr
      obtain ⟨ua, uc, hu⟩ := hr.len
      clear hc hr
      generalize ls.getD k [] = ys at *
      subst hu
      have k0 : (0 : Int) ≤ (k : Int) := by omega
      have k1 : (k : Int) < (ls.length : Int) := by omega
      by_cases hlong : 200 < ys.length
      · have hdl : decide ((200 : Int) < (ys.length : Int)) = true := by simp; omega
        go_wp2_with fail
        go_ret
        exact ⟨rfl, HB.out⟩
      · have hdl : decide ((200 : Int) < (ys.length : Int)) = false := by simp; omega
        go_wp2_with fail
        refine (reffind_any (HM.out.rl HB.out) (HR.out.below HB.out) hyl (by omega)).mono ?_
        rintro e w3 ⟨hf3, k3, rfl⟩
        have HB3 := Lib.hid (below_drewN HB.out k3)
        have HT3 := Lib.hid (HT.out.drewN k3)
        have HM3 := Lib.hid (HM.out.drewN k3)
        have hz3 : b ≤ (wr.drewN k3).heap.size := hzr
        have hzw3 : w.heap.size ≤ (wr.drewN k3).heap.size := hzw
        clear hdl hc' HB HT HM
        generalize wr.drewN k3 = w3 at *
        have hc3 := (HB3.out.cell (p := ⟨pb, po + k, none⟩) hpl).trans HC.out
        rcases hf3 with ⟨ix, hix, hixe, rfl⟩ | ⟨hno, rfl⟩
        · -- it is there
          have HIX := Lib.hid hixe
          clear hixe
          go_wp2_with fail
          refine (find_any HT3.out (HR.out.below HB3.out) hyl (by omega)).mono ?_
          rintro e w4 ⟨hf4, k4, rfl⟩
          rcases hf4 with ⟨iy, hiy, hiye, rfl⟩ | ⟨hno, _⟩
          · have hyx : iy = ix := nodup_inj HND.out hiy hix (hiye.trans HIX.out.symm)
            subst hyx
            clear hiye
            have HB4 := Lib.hid (below_drewN HB3.out k4)
            have HT4 := Lib.hid (HT3.out.drewN k4)
            have HM4 := Lib.hid (HM3.out.drewN k4)
            have hz4 : b ≤ (w3.drewN k4).heap.size := hz3
            have hzw4 : w.heap.size ≤ (w3.drewN k4).heap.size := hzw3
            clear hc3 HB3 HT3 HM3
            generalize w3.drewN k4 = w4 at *
            have hc4 := (HB4.out.cell (p := ⟨pb, po + k, none⟩) hpl).trans HC.out
            have q1 : ((iy : Int) != (iy : Int)) = false := by simp
            have hlen : ys.length ≤ 64 := by rw [← HIX.out]; exact HT4.out.short iy
            have d64 : decide ((64 : Int) < (ys.length : Int)) = false := by simp; omega
            have q2 : ((vs.length : Int) != (vs.length : Int)) = false := by simp
            go_wp2_with fail
            refine (put_any HT4.out (HR.out.below HB4.out) (vok_old HR.out (by omega) (by omega)) (by omega) (by omega) hz4).mono ?_
            rintro e w5 ⟨hk5, hcase⟩
            rcases hcase with ⟨i5, hi5, he5, rfl, hT5⟩ | ⟨hno, _⟩
            · have hy5 : i5 = iy := nodup_inj HND.out hi5 hix (he5.trans HIX.out.symm)
              subst hy5
              have HB5 := Lib.hid (hk5.below HB4.out (by omega) (by omega) hzw4)
              have HT5 := Lib.hid hT5
              have HM5 := Lib.hid (HM4.out.keep hk5)
              have hz5 : b ≤ w5.heap.size := Nat.le_trans hz4 hk5.size
              clear hk5 hT5 hc4 HB4 HT4 HM4 he5
              have hc5 := (HB5.out.cell (p := ⟨pb, po + k, none⟩) hpl).trans HC.out
              go_wp2_with fail
              refine HT5.out.len_.mono ?_
              rintro e w6 ⟨rfl, hw6⟩
              rw [hw6]
              clear hw6 w6
              go_wp2_with fail
              refine (at_is HT5.out i5 hi5 (by omega) HIX.out).mono ?_
              rintro e w6 ⟨v6, rfl, ho6, hb6⟩
              have HB6 := Lib.hid (HB5.out.trans (hb6.mono HB5.out.size))
              have HT6 := Lib.hid (HT5.out.below hb6)
              have HM6 := Lib.hid (HM5.out.below hb6)
              have HR6 := Lib.hid (R32.of_owns ho6)
              have hz6 : b ≤ w6.heap.size := Nat.le_trans hz5 hb6.size
              clear ho6 hb6 hc5 HB5 HT5 HM5 d64 q1 q2
              have hc6 := (HB6.out.cell (p := ⟨pb, po + k, none⟩) hpl).trans HC.out
              go_wp2_with fail
              refine (same_any HR6.out (HR.out.below HB6.out) hyl hyl).mono ?_
              rintro e w7 ⟨rfl, k7, rfl⟩
              rw [decide_eq_true (rfl : ys = ys)]
              have HB7 := Lib.hid (below_drewN HB6.out k7)
              have HT7 := Lib.hid (HT6.out.drewN k7)
              have HM7 := Lib.hid (HM6.out.drewN k7)
              have hz7 : b ≤ (w6.drewN k7).heap.size := hz6
              clear hc6
              generalize w6.drewN k7 = w7 at *
              go_wp2_with fail
              go_roundw
              case rel => exact ⟨k + 1, vs, by omega, by go_num, HT7.out, by omega, HM7.out, HB7.out, hz7⟩
              case measure => simp [intOf]; omega
            · exact absurd HIX.out (hno iy hix)
          · exact absurd HIX.out (hno ix hix)
        · -- it isn't
          have HNO := Lib.hid hno
          clear hno
          go_wp2_with fail
          refine (find_any HT3.out (HR.out.below HB3.out) hyl (by omega)).mono ?_
          rintro e w4 ⟨hf4, k4, rfl⟩
          rcases hf4 with ⟨iy, hiy, hiye, _⟩ | ⟨_, rfl⟩
          · exact absurd hiye (HNO.out iy hiy)
          · have HB4 := Lib.hid (below_drewN HB3.out k4)
            have HT4 := Lib.hid (HT3.out.drewN k4)
            have HM4 := Lib.hid (HM3.out.drewN k4)
            have hz4 : b ≤ (w3.drewN k4).heap.size := hz3
            have hzw4 : w.heap.size ≤ (w3.drewN k4).heap.size := hzw3
            clear hc3 HB3 HT3 HM3
            generalize w3.drewN k4 = w4 at *
            have hc4 := (HB4.out.cell (p := ⟨pb, po + k, none⟩) hpl).trans HC.out
            by_cases hlen : 64 < ys.length
            · have d64 : decide ((64 : Int) < (ys.length : Int)) = true := by simp; omega
              go_wp2_with fail
              refine (put_long _ _ ys (HR.out.below HB4.out) hlen).mono ?_
              rintro e w5 ⟨rfl, hw5⟩
              rw [hw5]
              clear hw5 w5
              go_wp2_with fail
              refine (num_errno 2 _ (HG.out.below HB4.out)).mono ?_
              rintro e w5 ⟨rfl, hb5⟩
              have HB5 := Lib.hid (HB4.out.trans (hb5.mono HB4.out.size))
              have HT5 := Lib.hid (HT4.out.below hb5)
              have HM5 := Lib.hid (HM4.out.below hb5)
              have hz5 : b ≤ w5.heap.size := Nat.le_trans hz4 hb5.size
              clear hb5 hc4 HB4 HT4 HM4 d64
              go_wp2_with fail
              go_roundw
              case rel => exact ⟨k + 1, vs, by omega, by go_num, HT5.out, by omega, HM5.out, HB5.out, hz5⟩
              case measure => simp [intOf]; omega
            · have d64 : decide ((64 : Int) < (ys.length : Int)) = false := by simp; omega
              have q2 : ((vs.length : Int) != (vs.length : Int)) = false := by simp
              go_wp2_with fail
              refine (put_any HT4.out (HR.out.below HB4.out) (vok_old HR.out (by omega) (by omega)) (by omega) (by omega) hz4).mono ?_
              rintro e w5 ⟨hk5, hcase⟩
              rcases hcase with ⟨i5, hi5, he5, _⟩ | ⟨_, rfl, hT5⟩
              · exact absurd he5 (HNO.out i5 hi5)
              · have HB5 := Lib.hid (hk5.below HB4.out (by omega) (by omega) hzw4)
                have HT5 := Lib.hid hT5
                have HM5 := Lib.hid (HM4.out.keep hk5)
                have hz5 : b ≤ w5.heap.size := Nat.le_trans hz4 hk5.size
                clear hk5 hT5 hc4 HB4 HT4 HM4
                have hc5 := (HB5.out.cell (p := ⟨pb, po + k, none⟩) hpl).trans HC.out
                obtain ⟨ml, hml1, hml2⟩ := HM5.out
                have HML1 := Lib.hid hml1
                have HML2 := Lib.hid hml2
                clear hml1 hml2
                go_wp2_with (at_builtin; refine wpList_append_own _ rfl _ _ 22 rfl b 26 i0 (.slice none 0 0) 1 24 Tryd.underlying22 HI.out HZ0.out HZ1.out HZ2.out rfl (by decide) _ _ _ rfl (HML1.out.alloc _) ⟨w5.heap.size, 0, none⟩ 1 1 [.slice ua ys.length uc] rfl rfl ?c1 ?c2 ?c3 ?c4 ?c5 ?_)
                case c1 =>
                  intro j x hj
                  match j, hj with
                  | 0, hj => simp at hj; subst hj; simp [Addr.add]
                case c2 => intro x hx; simp at hx; subst hx; rfl
                case c3 => unfold maxLen; omega
                case c4 => omega
                case c5 => simp; omega
                intro v6 w6 hown6 hgrow6 _
                have hrow : ∀ g, Value.ownBlock (.slice am vs.length cm) = some g → b ≤ g ∧ ∃ cs, Blk w5 g 26 cs := fun g hg => owns_blk HML1.out hg
                have HB6 := Lib.hid ((HB5.out.alloc (by omega) _).grown hgrow6 (by simp; omega) (fun g hg => by have := (hrow g hg).1; omega))
                have HT6 := Lib.hid (HT5.out.ofTyp (w' := w6) (fun g t cs hb hne => ((hgrow6.block g (by have := hb.lt; simp; omega) (fun e => by
                  obtain ⟨_, cs', hb'⟩ := hrow g e.symm
                  exact hb.ne_ hb' hne rfl)).trans (Below.heap_alloc _ _ _ hb.lt)).trans hb))
                have HM6 := Lib.hid (mine_snoc HML2.out HML1.out hown6 HR.out hyl)
                have hz6 : b ≤ w6.heap.size := by have := hgrow6.size; simp at this; omega
                have HAT := Lib.hid (getD_snoc_at vs ys)
                have hvs6 : (vs ++ [ys]).length = vs.length + 1 := by simp
                clear hown6 hgrow6 hrow hc5 HB5 HT5 HML1 HML2 HM5
                generalize vs ++ [ys] = vs6 at *
                obtain ⟨am6, cm6, hv6⟩ : ∃ am6 cm6, v6 = .slice am6 vs6.length cm6 := by
                  obtain ⟨ml6, ho6, _⟩ := HM6.out
                  exact owns_slice ho6
                have hvlt : vs.length < vs6.length := by omega
                have hvl6 : vs6.length ≤ k + 1 := by omega
                have q3 : ((vs6.length : Int) != (vs6.length : Int)) = false := by simp
                clear hvs6
                subst hv6
                have hc6 := (HB6.out.cell (p := ⟨pb, po + k, none⟩) hpl).trans HC.out
                go_wp2_with fail
                refine HT6.out.len_.mono ?_
                rintro e w7 ⟨rfl, hw7⟩
                rw [hw7]
                clear hw7 w7
                go_wp2_with fail
                refine (at_is HT6.out vs.length hvlt (by omega) HAT.out).mono ?_
                rintro e w7 ⟨v7, rfl, ho7, hb7⟩
                have HB7 := Lib.hid (HB6.out.trans (hb7.mono HB6.out.size))
                have HT7 := Lib.hid (HT6.out.below hb7)
                have HM7 := Lib.hid (HM6.out.below hb7)
                have HR7 := Lib.hid (R32.of_owns ho7)
                have hz7 : b ≤ w7.heap.size := Nat.le_trans hz6 hb7.size
                clear ho7 hb7 hc6 HB6 HT6 HM6 d64 q2 q3
                have hc7 := (HB7.out.cell (p := ⟨pb, po + k, none⟩) hpl).trans HC.out
                go_wp2_with fail
                refine (same_any HR7.out (HR.out.below HB7.out) hyl hyl).mono ?_
                rintro e w8 ⟨rfl, k8, rfl⟩
                rw [decide_eq_true (rfl : ys = ys)]
                have HB8 := Lib.hid (below_drewN HB7.out k8)
                have HT8 := Lib.hid (HT7.out.drewN k8)
                have HM8 := Lib.hid (HM7.out.drewN k8)
                have hz8 : b ≤ (w7.drewN k8).heap.size := hz7
                clear hc7
                generalize w7.drewN k8 = w8 at *
                go_wp2_with fail
                go_roundw
                case rel => exact ⟨k + 1, vs6, by omega, by go_num, HT8.out, hvl6, HM8.out, HB8.out, hz8⟩
                case measure => simp [intOf]; omega
    · have hd : decide (k < ls.length) = false := by simp; omega
      by_cases hn : 0 ≤ n ∧ n < (vs.length : Int)
      · obtain ⟨j, rfl⟩ := Int.eq_ofNat_of_zero_le hn.1
        have hjl : j < vs.length := by omega
        have j0 : (0 : Int) ≤ (j : Int) := by omega
        have j1 : (j : Int) < (vs.length : Int) := by omega
        have dj : decide (j < vs.length) = true := by simp; omega
        clear hn
        go_wp2_with fail
        refine (at_is HT.out j hjl (by omega) rfl).mono ?_
        rintro e w3 ⟨v3, rfl, ho3, hb3⟩
        have HB3 := Lib.hid (HB.out.trans (hb3.mono HB.out.size))
        have HR3 := Lib.hid (R32.of_owns ho3)
        obtain ⟨am3, cm3, hm3, hcell⟩ := (HM.out.below hb3).rl HB3.out
        obtain ⟨⟨qb, qo, qs⟩, x, hq, hqs, hqc, hqr, hql⟩ := hcell j hjl
        have HQR := Lib.hid hqr
        have hsh := HT.out.short j
        injection hm3 with e1 _ e2
        simp only at hqs hqc
        subst hqs
        rw [e1] at *
        clear ho3 hb3 hcell hqr hd
        subst hq
        generalize vs.getD j [] = zs at *
        go_wp2_with fail
        refine (same_any HR3.out HQR.out (by omega) (by omega)).mono ?_
        rintro e w4 ⟨rfl, k4, rfl⟩
        rw [decide_eq_true (rfl : zs = zs)]
        have HB4 := Lib.hid (below_drewN HB3.out k4)
        clear hqc
        generalize w3.drewN k4 = w4 at *
        go_wp2_with fail
        go_ret
        exact ⟨rfl, HB4.out⟩
      · by_cases hn0 : 0 ≤ n
        · have hn1 : decide (n < (vs.length : Int)) = false := by simp; omega
          go_wp2_with fail
          refine (at_no HT.out n (by omega)).mono ?_
          rintro e w3 ⟨rfl, hw3⟩
          rw [hw3]
          clear hw3 w3 hd
          go_wp2_with fail
          go_ret
          exact ⟨rfl, HB.out⟩
        · have hn1 : decide (0 ≤ n) = false := by simp; omega
          go_wp2_with fail
          refine (at_no HT.out n (by omega)).mono ?_
          rintro e w3 ⟨rfl, hw3⟩
          rw [hw3]
          clear hw3 w3 hd
          go_wp2_with fail
          go_ret
          exact ⟨rfl, HB.out⟩
end Go.Proofs.YtoppjkdlloddmaaDoor
