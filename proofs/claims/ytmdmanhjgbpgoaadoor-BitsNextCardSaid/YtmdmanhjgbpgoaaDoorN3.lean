/-
  The law BitsNext answers true for every size and all numbers: Next from each number on leads through just the items, and numbers beyond a set's size count for nothing when it is joined.
-/
import Derived.Test.YtmdmanhjgbpgoaaDoorS4
namespace Go.Proofs.YtmdmanhjgbpgoaaDoor
open Go.RowKit

/-! ### has, over a list -/
def HasRel (xs : List Int) (x : Int) (i : Value) : Prop := ∃ k : Nat, k ≤ xs.length ∧ i = .int .i64 (k : Int) ∧ ∀ j, j < k → xs.getD j 0 ≠ x
set_option maxHeartbeats 400000 in
theorem has_list {w : World} {v : Value} {xs : List Int} (x : Int) (hv : Reads w v xs) (hx : xs.length ≤ 9223372036854775807) :
    Calls Tryd.prog 31 #[v, .int .i64 x] w fun e w' => e = .returned (.bool (decide (x ∈ xs))) ∧ w' = w := by
  obtain ⟨ad, cap, rfl, hv⟩ := hv
  have HV := Lib.hid hv
  clear hv
  go_enter Tryd.func31, Tryd.ntmps31
  go_wp2
  go_loop [5] (fun i => HasRel xs x i) (fun i => xs.length - (intOf i).toNat)
  case atStart => exact ⟨0, Nat.zero_le _, rfl, fun j hj => by omega⟩
  case round =>
    obtain ⟨k, hk, rfl, hz⟩ := hrel
    have HZ := Lib.hid hz
    clear hz
    by_cases hlt : k < xs.length
    · obtain ⟨⟨pb, po, ps⟩, hp, hps, hc⟩ := HV.out k hlt
      simp only at hps hc
      subst hps
      have HMM := Lib.hid (getD_mem xs k hlt)
      generalize hxk : xs.getD k 0 = y at *
      have HXK := Lib.hid hxk
      have HHV := Lib.hid HV
      clear hxk HV
      subst hp
      have k0 : (0 : Int) ≤ (k : Int) := by omega
      have k1 : (k : Int) < (xs.length : Int) := by omega
      by_cases he : y = x
      · have hb : (y == x) = true := by rw [beq_iff_eq]; exact he
        have HE := Lib.hid he
        clear he
        go_wp2
        go_ret
        refine ⟨?_, rfl⟩
        have : decide (x ∈ xs) = true := by rw [decide_eq_true_iff, ← HE.out]; exact HMM.out
        rw [this]; rfl
      · have hb : (y == x) = false := by rw [beq_eq_false_iff_ne]; exact he
        have HE := Lib.hid he
        clear he
        go_wp2
        go_round
        case rel =>
          refine ⟨k + 1, by omega, by go_num, fun j hj => ?_⟩
          rcases Nat.lt_or_ge j k with h | h
          · exact HZ.out j h
          · rw [show j = k by omega, HXK.out]; exact HE.out
        case measure => simp [intOf]; omega
    · have hd : decide (k < xs.length) = false := by simp; omega
      go_wp2
      go_ret
      refine ⟨?_, rfl⟩
      have : decide (x ∈ xs) = false := by
        rw [decide_eq_false_iff_not]
        intro hm
        obtain ⟨j, hj, he⟩ := List.getElem_of_mem hm
        refine HZ.out j (by omega) ?_
        rw [List.getD_eq_getElem?_getD, List.getElem?_eq_getElem hj]; exact he
      rw [this]; rfl

theorem its_prefix (f : Nat → Bool) (a m : Nat) (h : a ≤ m) : ∃ r, its m f = its a f ++ r := by
  obtain ⟨d, rfl⟩ := Nat.exists_eq_add_of_le h
  unfold its
  rw [List.range_add, List.filter_append]
  exact ⟨_, rfl⟩
/-- Where Next stands behind i items. -/
def At (f : Nat → Bool) (m i a : Nat) : Prop := a ≤ m ∧ i ≤ (its m f).length ∧ its a f = (its m f).take i
theorem at_found {f : Nat → Bool} {m i a k : Nat} (h : At f m i a) (hk : f k = true) (hkm : k < m) (ha : a ≤ k) (hb : ∀ j, a ≤ j → j < k → f j = false) :
    i < (its m f).length ∧ (its m f).getD i 0 = k ∧ At f m (i + 1) (k + 1) := by
  obtain ⟨h1, h2, h3⟩ := h
  have e := its_step f a k hk ha hb
  obtain ⟨r, hr⟩ := its_prefix f (k + 1) m (by omega)
  have hl : (its a f).length = i := by rw [h3, List.length_take]; omega
  rw [e] at hr
  have hlen : (its m f).length = i + 1 + r.length := by rw [hr]; simp [hl]; omega
  refine ⟨by omega, ?_, by omega, by omega, ?_⟩
  · rw [hr, List.getD_eq_getElem?_getD, List.append_assoc, List.getElem?_append_right (by omega), hl]; simp
  · rw [e, hr, List.take_append_of_le_length (by simp [hl]), List.take_of_length_le (by simp [hl])]
theorem at_none {f : Nat → Bool} {m i a : Nat} (h : At f m i a) (hb : ∀ j, a ≤ j → f j = false) : i = (its m f).length := by
  obtain ⟨h1, h2, h3⟩ := h
  have e := its_none f a m h1 hb
  have : (its a f).length = i := by rw [h3, List.length_take]; omega
  rw [← this, e]
theorem mem_its (f : Nat → Bool) (m k : Nat) : k ∈ its m f ↔ k < m ∧ f k = true := by
  unfold its; rw [List.mem_filter, List.mem_range]

def FillRel2 (n n' bs cs bt ct len : Nat) (w : World) (i : Value) (wr : World) : Prop :=
  ∃ k : Nat, k ≤ len ∧ i = .int .i64 (k : Int) ∧ Below w.heap.size w wr ∧ bt < wr.heap.size ∧ bs < wr.heap.size ∧ (∃ f, SetF wr bs cs n f) ∧ ∃ g, SetF wr bt ct n' g
def WalkRel (f : Nat → Bool) (m : Nat) (w : World) (a i : Value) (wr : World) : Prop :=
  ∃ k : Nat, i = .int .i64 (k : Int) ∧ (∃ n, wr = w.drewN n) ∧ ((∃ p : Nat, a = .int .i64 (p : Int) ∧ At f m k p) ∨ k = (its m f).length + 1)
def LookRel (w : World) (i : Value) (wr : World) : Prop := ∃ k : Nat, k ≤ 256 ∧ i = .int .i64 (k : Int) ∧ ∃ n, wr = w.drewN n

set_option maxHeartbeats 400000 in
theorem bitsNext_long {w : World} (s s' : Int) {ad bd : Option Addr} {la lb ca cb : Nat} (hG : Glob w) (hl : 200 < la ∨ 200 < lb) :
    Calls Tryd.prog 6 #[.int .u8 s, .int .u8 s', .slice ad la ca, .slice bd lb cb] w fun e w' => e = .returned (.bool true) ∧ Below w.heap.size w w' := by
  have HG := Lib.hid hG
  clear hG
  by_cases ha : 200 < la
  · clear hl
    go_enter Tryd.func6, Tryd.ntmps6
    go_wp2_with fail
    refine (alive_yes _ HG.out).mono ?_
    rintro e w1 ⟨rfl, hb⟩
    have HB := Lib.hid hb
    clear hb
    go_wp2_with fail
    go_ret
    exact ⟨rfl, HB.out⟩
  · have hb2 : 200 < lb := by omega
    have hd : decide ((200 : Int) < (la : Int)) = false := by simp; omega
    clear hl
    go_enter Tryd.func6, Tryd.ntmps6
    go_wp2_with fail
    refine (alive_yes _ HG.out).mono ?_
    rintro e w1 ⟨rfl, hb⟩
    have HB := Lib.hid hb
    clear hb
    go_wp2_with fail
    go_ret
    exact ⟨rfl, HB.out⟩

theorem joinF_at (f g : Nat → Bool) (m k : Nat) : memI (joinF f g m) (k : Int) = (f k || (g k && decide (k < m))) := by simp [memI, joinF]

set_option maxHeartbeats 1600000 in
set_option maxRecDepth 100000 in
theorem bitsNext_yes {w : World} (m m' : Nat) {va vb : Value} {xs ys : List Int} (hm : m ≤ 255) (hm' : m' ≤ 255) (hG : Glob w) (hva : Reads8 w va xs) (hvb : Reads8 w vb ys) :
    Calls Tryd.prog 6 #[.int .u8 (m : Int), .int .u8 (m' : Int), va, vb] w fun e w' => e = .returned (.bool true) ∧ Below w.heap.size w w' := by
  obtain ⟨ad, ca, rfl, ha, ha8⟩ := hva
  obtain ⟨bd, cb, rfl, hb, hb8⟩ := hvb
  by_cases hbig : 200 < xs.length ∨ 200 < ys.length
  · exact bitsNext_long _ _ hG hbig
  have hxl : xs.length ≤ 200 := by omega
  have hyl : ys.length ≤ 200 := by omega
  have hd1 : decide ((200 : Int) < (xs.length : Int)) = false := by simp; omega
  have hd2 : decide ((200 : Int) < (ys.length : Int)) = false := by simp; omega
  have HA := Lib.hid ha
  have HA8 := Lib.hid ha8
  have HBB := Lib.hid hb
  have HB8 := Lib.hid hb8
  have HG := Lib.hid hG
  clear ha ha8 hb hb8 hbig hG
  go_enter Tryd.func6, Tryd.ntmps6
  go_wp2_with fail
  refine (alive_yes _ HG.out).mono ?_
  rintro e w1 ⟨rfl, hb1⟩
  have HB1 := Lib.hid hb1
  have hz1 := hb1.size
  clear hb1
  go_wp2_with fail
  clear hd1 hd2
  refine (new_int _ _ (by omega) (by omega)).mono ?_
  rintro e w2 ⟨rfl, hw2⟩
  rw [Int.toNat_natCast] at hw2
  have hs := new_set w1 m (by omega)
  have hn := newW_below w1 m
  have hz2 := newW_size w1 m
  rw [← hw2] at hs hn hz2
  have HS := Lib.hid hs
  have HB2 := Lib.hid (HB1.out.trans (hn.mono hz1))
  have hz2a : w1.heap.size + 2 ≤ w2.heap.size := by omega
  clear hw2 hs hn hz2
  go_wp2_with fail
  refine (new_int _ _ (by omega) (by omega)).mono ?_
  rintro e w3 ⟨rfl, hw3⟩
  rw [Int.toNat_natCast] at hw3
  have ht := new_set w2 m' (by omega)
  have hn := newW_below w2 m'
  have hz3 := newW_size w2 m'
  rw [← hw3] at ht hn hz3
  have HT := Lib.hid ht
  have HS2 := Lib.hid (HS.out.below hn)
  have HB3 := Lib.hid (HB2.out.trans (hn.mono (by omega)))
  have hz3a : w2.heap.size + 2 ≤ w3.heap.size := by omega
  clear hw3 ht hn hz3 HS
  generalize hcs : w1.heap.size = cs at *
  generalize hct : w2.heap.size = ct at *
  have HCS := Lib.hid hcs
  have HCT := Lib.hid hct
  clear hcs hct
  go_wp2_with fail
  go_loopw [13] (fun i wr => FillRel2 m m' (cs + 1) cs (ct + 1) ct xs.length w i wr) (fun i _ => xs.length - (intOf i).toNat)
  case atStart => exact ⟨0, Nat.zero_le _, rfl, HB3.out, by omega, by omega, ⟨_, HS2.out⟩, ⟨_, HT.out⟩⟩
  case round =>
    obtain ⟨k, hk, rfl, hbel, hlt1, hlt2, ⟨f, hf⟩, ⟨g, hg⟩⟩ := hrel
    have HBR := Lib.hid hbel
    have HF := Lib.hid hf
    have HGG := Lib.hid hg
    have hbs := hbel.size
    clear hbel hf hg
    by_cases hlt : k < xs.length
    · obtain ⟨⟨pb, po, ps⟩, hp, hps, hc⟩ := HA.out k hlt
      simp only at hps hc
      subst hps
      have hpb := World.block_lt_of_cell? w _ hc
      have hc' := (HBR.out.cell (p := ⟨pb, po + k, none⟩) hpb).trans hc
      have h8 := HA8.out k
      obtain ⟨h80, h81⟩ := h8
      clear hc
      generalize xs.getD k 0 = x at *
      have HHA := Lib.hid HA
      clear HA
      subst hp
      have k0 : (0 : Int) ≤ (k : Int) := by omega
      have k1 : (k : Int) < (xs.length : Int) := by omega
      go_wp2_with fail
      refine (add_set HF.out _).mono ?_
      rintro e wx ⟨rfl, ho, hset⟩
      have HO := Lib.hid ho
      have HSX := Lib.hid hset
      have hgz := ho.size
      clear ho hset
      go_wp2
      go_roundw
      case rel => exact ⟨k + 1, by omega, by go_num, below_only HBR.out HO.out hbs (by omega), by omega, by omega, ⟨_, HSX.out⟩, ⟨_, HGG.out.only HO.out (by omega) (by omega)⟩⟩
      case measure => simp [intOf]; omega
    · have hd : decide (k < xs.length) = false := by simp; omega
      have HF1 := HF
      have HG1 := HGG
      have HB4 := HBR
      clear HF HGG HBR HS2 HT HB3
      go_wp2_with fail
      generalize wr = w4 at *
      clear hd
      go_loopw [14] (fun i wr => FillRel2 m m' (cs + 1) cs (ct + 1) ct ys.length w i wr) (fun i _ => ys.length - (intOf i).toNat)
      case atStart => exact ⟨0, Nat.zero_le _, rfl, HB4.out, by omega, by omega, ⟨_, HF1.out⟩, ⟨_, HG1.out⟩⟩
      case round =>
        clear HF1 HG1 HB4
        obtain ⟨k2, hk2, rfl, hbel, hlt1, hlt2, ⟨f, hf⟩, ⟨g, hg⟩⟩ := hrel
        have HBR := Lib.hid hbel
        have HF := Lib.hid hf
        have HGG := Lib.hid hg
        have hbs := hbel.size
        clear hbel hf hg
        by_cases hlt : k2 < ys.length
        · obtain ⟨⟨pb, po, ps⟩, hp, hps, hc⟩ := HBB.out k2 hlt
          simp only at hps hc
          subst hps
          have hpb := World.block_lt_of_cell? w _ hc
          have hc' := (HBR.out.cell (p := ⟨pb, po + k2, none⟩) hpb).trans hc
          have h8 := HB8.out k2
          obtain ⟨h80, h81⟩ := h8
          clear hc
          generalize ys.getD k2 0 = x at *
          have HHA := Lib.hid HBB
          clear HBB
          subst hp
          have k0 : (0 : Int) ≤ (k2 : Int) := by omega
          have k1 : (k2 : Int) < (ys.length : Int) := by omega
          go_wp2_with fail
          refine (add_set HGG.out _).mono ?_
          rintro e wx ⟨rfl, ho, hset⟩
          have HO := Lib.hid ho
          have HSX := Lib.hid hset
          have hgz := ho.size
          clear ho hset
          go_wp2
          go_roundw
          case rel => exact ⟨k2 + 1, by omega, by go_num, below_only HBR.out HO.out hbs (by omega), by omega, by omega, ⟨_, HF.out.only HO.out (by omega) (by omega)⟩, ⟨_, HSX.out⟩⟩
          case measure => simp [intOf]; omega
        · have hd : decide (k2 < ys.length) = false := by simp; omega
          go_wp2_with fail
          clear hd
          generalize wr = w5 at *
          refine (items_set HF.out (HG.out.below HBR.out).tab).mono ?_
          rintro e w6 ⟨v, rfl, hown, hb6⟩
          have hrd := Reads.of_owns hown
          have hblk : ∀ ad n c, v = .slice (some ad) n c → w5.heap.size ≤ ad.block ∧ ad.block < w6.heap.size := fun ad n c hv => hown.lt ad.block (by rw [hv]; rfl)
          have HBK := Lib.hid hblk
          clear hblk
          have HF6 := Lib.hid (HF.out.below hb6)
          have HG6 := Lib.hid (HGG.out.below hb6)
          have HB6 := Lib.hid (HBR.out.trans (hb6.mono hbs))
          have hz6 := hb6.size
          have hL := its_le m f
          have HRD := Lib.hid hrd
          obtain ⟨iad, icap, rfl, hcells⟩ := hrd
          have HC := Lib.hid hcells
          simp only [List.length_map] at HC HRD HBK ⊢
          clear hown hb6 hcells HF HGG HBR
          generalize hLL : (its m f).length = L at *
          have HLL := Lib.hid hLL
          clear hLL
          go_wp2_with fail
          go_loopw [15, 17] (fun a i wr => WalkRel f m w6 a i wr) (fun _ i _ => L + 1 - (intOf i).toNat)
          case atStart => exact ⟨0, rfl, ⟨0, rfl⟩, .inl ⟨0, rfl, Nat.zero_le _, Nat.zero_le _, rfl⟩⟩
          case round =>
            obtain ⟨k3, rfl, ⟨n3, rfl⟩, hst⟩ := hrel
            rcases hst with ⟨p3, rfl, hat⟩ | hend
            · have hk3 : k3 ≤ L := by rw [← HLL.out]; exact hat.2.1
              have HAT := Lib.hid hat
              clear hat
              go_wp2_with fail
              refine (next_set (HF6.out.drewN n3) (tab_below (HG.out.below HB6.out).tab (below_drewN (Below.refl _ _) n3)) _).mono ?_
              intro e w7 hnx
              obtain ⟨i7, o7, n7, rfl, hni, rfl⟩ := nextF_is hnx
              rw [Int.toNat_natCast] at hni
              rcases hni with ⟨kk, rfl, rfl, hk1, hk2', hk3'⟩ | ⟨rfl, rfl, hno⟩
              · have hkm := HF6.out.out kk hk1
                obtain ⟨hi1, hi2, hi3⟩ := at_found HAT.out hk1 hkm hk2' hk3'
                rw [HLL.out] at hi1
                have HI3 := Lib.hid hi3
                have hcl := HC.out k3 hi1
                obtain ⟨⟨pb, po, ps⟩, hp, hps, hc⟩ := hcl
                simp only at hps hc
                subst hps
                have e3 : ((its m f).map (fun x : Nat => (x : Int))).getD k3 0 = (kk : Int) := by
                  rw [← hi2, List.getD_eq_getElem?_getD, List.getElem?_map, List.getD_eq_getElem?_getD]
                  cases (its m f)[k3]? <;> rfl
                rw [e3] at hc
                have HHC := Lib.hid HC
                have HHR := Lib.hid HRD
                clear hnx hk1 hk2' hk3' hi2 hi3 e3 HC HRD
                subst hp
                have q0 : (0 : Int) ≤ (k3 : Int) := by omega
                have q1 : (k3 : Int) < (L : Int) := by omega
                have q2 : decide (k3 < L) = true := by simp; omega
                go_wp2
                go_roundw
                case rel => exact ⟨k3 + 1, by go_num, ⟨_, rfl⟩, .inl ⟨kk + 1, by go_num, HI3.out⟩⟩
                case measure => simp [intOf]; omega
              · have hi := at_none HAT.out hno
                rw [HLL.out] at hi
                have q2 : decide (k3 < L) = false := by simp; omega
                have hi' : L ≤ k3 := by omega
                clear hnx hno hi
                go_wp2
                go_roundw
                case rel => exact ⟨k3 + 1, by go_num, ⟨_, rfl⟩, .inr (by rw [HLL.out]; omega)⟩
                case measure => simp [intOf]; omega
            · rw [HLL.out] at hend
              have q2 : decide ((k3 : Int) ≤ (L : Int)) = false := by simp; omega
              have q3 : ¬ k3 ≤ L := by omega
              clear hend
              go_wp2_with fail
              have HF7 := Lib.hid (HF6.out.drewN n3)
              have HG7 := Lib.hid (HG6.out.drewN n3)
              have HB7 := Lib.hid (below_drewN HB6.out n3)
              have HR7 := Lib.hid (HRD.out.below (below_drewN (Below.refl _ _) n3))
              have hz7 : w6.heap.size ≤ (w6.drewN n3).heap.size := Nat.le_refl _
              generalize w6.drewN n3 = w7 at *
              clear q2 q3 HF6 HG6 HB6 HRD HC
              refine (join_set HF7.out (.inr ⟨ct + 1, ct, _, rfl, HG7.out, by omega, by omega⟩)).mono ?_
              rintro e w8 ⟨rfl, ho, hset⟩
              have HF8 := Lib.hid hset
              have HG8 := Lib.hid (HG7.out.only ho (by omega) (by omega))
              have HB8' := Lib.hid (below_only HB7.out ho (by omega) (by omega))
              have HR8 := Lib.hid (HR7.out.block (w' := w8) (fun ad nn cc hv _ => ho.block ad.block (by have := HBK.out ad nn cc hv; omega) (by have := HBK.out ad nn cc hv; intro hh; injection hh; omega)))
              have hz8 := ho.size
              clear ho hset HF7 HG7 HB7 HR7
              go_wp2_with fail
              go_loopw [20] (fun i wr => LookRel w8 i wr) (fun i _ => 256 - (intOf i).toNat)
              case atStart => exact ⟨0, by omega, rfl, 0, rfl⟩
              case round =>
                obtain ⟨k4, hk4, rfl, n4, rfl⟩ := hrel
                by_cases hlt4 : k4 < 256
                · have q0 : decide ((k4 : Int) < 256) = true := by simp; omega
                  have hjF := joinF_at f g m k4
                  have hin : decide (((k4 : Nat) : Int) ∈ (its m f).map (fun x : Nat => (x : Int))) = (decide (k4 < m) && f k4) := by
                    rw [Bool.eq_iff_iff, decide_eq_true_iff, Bool.and_eq_true, decide_eq_true_iff, ← mem_its, List.mem_map]
                    constructor
                    · rintro ⟨y, hy, he⟩
                      rw [show k4 = y by omega]; exact hy
                    · intro hy; exact ⟨k4, hy, rfl⟩
                  have hmg : memI g (k4 : Int) = g k4 := by simp [memI]
                  have HJF := Lib.hid hjF
                  have HIN := Lib.hid hin
                  have HMG := Lib.hid hmg
                  clear hjF hin hmg
                  by_cases hkm : k4 < m
                  · have HKM := Lib.hid hkm
                    have q1 : decide ((k4 : Int) < (m : Int)) = true := by simp; omega
                    go_wp2_with fail
                    refine (has_list _ (HR8.out.below (below_drewN (Below.refl _ _) n4)) (by simp only [List.length_map, HLL.out]; omega)).mono ?_
                    rintro e wq ⟨rfl, hwq⟩
                    rw [hwq, HIN.out, decide_eq_true HKM.out, Bool.true_and]
                    clear hwq wq
                    cases hfk : f k4 with
                    | true =>
                      have HFK := Lib.hid hfk
                      clear hfk
                      go_wp2_with fail
                      refine (has_set (HF8.out.drewN n4) _).mono ?_
                      rintro e wq ⟨rfl, nq4, rfl⟩
                      rw [HJF.out, HFK.out, Bool.true_or]
                      go_wp2
                      go_roundw
                      case rel => exact ⟨k4 + 1, by omega, by go_num, _, rfl⟩
                      case measure => simp [intOf]; omega
                    | false =>
                      have HFK := Lib.hid hfk
                      clear hfk
                      go_wp2_with fail
                      refine (has_set (HG8.out.drewN n4) _).mono ?_
                      rintro e wq ⟨rfl, nq4, rfl⟩
                      rw [HMG.out]
                      cases hgk : g k4 with
                      | true =>
                        have HGK := Lib.hid hgk
                        clear hgk
                        go_wp2_with fail
                        refine (has_set (HF8.out.drewN (n4 + nq4)) _).mono ?_
                        rintro e wq ⟨rfl, nq5, rfl⟩
                        rw [HJF.out, HFK.out, HGK.out, decide_eq_true HKM.out, Bool.false_or, Bool.true_and]
                        go_wp2
                        go_roundw
                        case rel => exact ⟨k4 + 1, by omega, by go_num, _, rfl⟩
                        case measure => simp [intOf]; omega
                      | false =>
                        have HGK := Lib.hid hgk
                        clear hgk
                        go_wp2_with fail
                        refine (has_set (HF8.out.drewN (n4 + nq4)) _).mono ?_
                        rintro e wq ⟨rfl, nq5, rfl⟩
                        rw [HJF.out, HFK.out, HGK.out, Bool.false_or, Bool.false_and]
                        go_wp2
                        go_roundw
                        case rel => exact ⟨k4 + 1, by omega, by go_num, _, rfl⟩
                        case measure => simp [intOf]; omega
                  · have q1 : decide ((k4 : Int) < (m : Int)) = false := by simp; omega
                    have q2 : ¬ (k4 : Int) < (m : Int) := by omega
                    have hfk : f k4 = false := by
                      cases hx : f k4 with
                      | false => rfl
                      | true => exact absurd (HF8.out.out k4 (by simp [joinF, hx])) hkm
                    have HFK := Lib.hid hfk
                    have HKM := Lib.hid hkm
                    clear hfk
                    go_wp2_with fail
                    refine (has_set (HF8.out.drewN n4) _).mono ?_
                    rintro e wq ⟨rfl, nq4, rfl⟩
                    rw [HJF.out, HFK.out, decide_eq_false HKM.out, Bool.and_false, Bool.or_false]
                    go_wp2
                    go_roundw
                    case rel => exact ⟨k4 + 1, by omega, by go_num, _, rfl⟩
                    case measure => simp [intOf]; omega
                · have q0 : decide ((k4 : Int) < 256) = false := by simp; omega
                  go_wp2_with fail
                  refine (size_at _ _ _ (HF8.out.drewN n4).csize).mono ?_
                  rintro e wq ⟨rfl, hwq⟩
                  rw [hwq]
                  clear hwq wq
                  go_wp2
                  go_ret
                  exact ⟨by simp, below_drewN HB8'.out n4⟩
end Go.Proofs.YtmdmanhjgbpgoaaDoor
