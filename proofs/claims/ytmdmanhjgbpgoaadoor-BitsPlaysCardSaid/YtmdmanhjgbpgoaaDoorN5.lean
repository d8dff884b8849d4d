/-
  The law BitsPlays answers true for every size, all first numbers and all calls.
-/
import Derived.Test.YtmdmanhjgbpgoaaDoorR4
import Derived.Deep.RegionHeld3
import Derived.Deep.CutRange
import Derived.Deep.CutBlock
namespace Go.Proofs.YtmdmanhjgbpgoaaDoor
open Go.RowKit

theorem SetF.lts {w : World} {b c size : Nat} {f : Nat → Bool} (h : SetF w b c size f) : b < w.heap.size ∧ c < w.heap.size := by
  obtain ⟨ws, hw, hm⟩ := h
  exact hw.lt_b

def PlayRel (n bs cs cm bm len : Nat) (L : Value) (w : World) (i : Value) (wr : World) : Prop :=
  ∃ k : Nat, k ≤ len ∧ i = .int .i64 (k : Int) ∧ Below w.heap.size w wr ∧ bs < wr.heap.size ∧ cs < wr.heap.size ∧ cm < wr.heap.size ∧ bm < wr.heap.size ∧ wr.cell? ⟨bm, 0, none⟩ = some L ∧ ∃ f, SetF wr bs cs n f ∧ RefAt wr L cm n f

theorem of_size' {w : World} (i : Int) {v : Value} (h : i < 0 ∨ 4096 < i) :
    Calls Tryd.prog 10 #[.int .i64 i, v] w fun e w' => e = .returned (.tuple #[.pointer none, .iface 56 (.int .i64 1)]) ∧ w' = w := of_size i v w h
theorem of_int' {w : World} (i : Int) {v : Value} {xs : List Int} (h0 : 0 ≤ i) (h1 : i ≤ 4096) (hv : Reads w v xs) (hx : xs.length ≤ 9223372036854775807) :
    Calls Tryd.prog 10 #[.int .i64 i, v] w (OfF i.toNat xs w) := by
  obtain ⟨n, rfl⟩ := Int.eq_ofNat_of_zero_le h0
  rw [Int.toNat_natCast]
  exact of_set n (by omega) hv hx

/-! ### The calls of the last look, each with what the next one asks -/
theorem count_nl {w : World} {b c size NL : Nat} {f : Nat → Bool} (h : SetF w b c size f) (hn : (its size f).length = NL) :
    Calls Tryd.prog 22 #[.pointer (some ⟨b, 0, none⟩)] w fun e w' => e = .returned (.int .i64 (NL : Int)) ∧ w' = w := by
  rw [← hn]; exact count_set h
def ValF (NL : Nat) (xs : List Int) (w : World) (e : Ending) (w' : World) : Prop :=
  ∃ ad cap, e = .returned (.slice ad NL cap) ∧ Reads w' (.slice ad NL cap) xs ∧ Below w.heap.size w w'
theorem items_nl {w : World} {b c size NL : Nat} {f : Nat → Bool} (h : SetF w b c size f) (hn : (its size f).length = NL) (ht : Tab w) :
    Calls Tryd.prog 27 #[.pointer (some ⟨b, 0, none⟩)] w (ValF NL ((its size f).map (fun x : Nat => (x : Int))) w) := by
  refine (items_set h ht).mono ?_
  rintro e w' ⟨v, rfl, hown, hb⟩
  have hr := Reads.of_owns hown
  have hr2 := hr
  obtain ⟨ad, cap, rfl, _⟩ := hr
  rw [List.length_map, hn] at hr2 ⊢
  exact ⟨ad, cap, rfl, hr2, hb⟩
theorem refItems_nl {w : World} {L : Value} {c n NL : Nat} {f : Nat → Bool} (h : RefAt w L c n f) (hn : (its n f).length = NL) :
    Calls Tryd.prog 23 #[.agg #[L]] w (ValF NL ((its n f).map (fun x : Nat => (x : Int))) w) := by
  refine (refItems_any h).mono ?_
  rintro e w' ⟨v, rfl, hr, hb⟩
  have hr2 := hr
  obtain ⟨ad, cap, rfl, _⟩ := hr
  rw [List.length_map, hn] at hr2 ⊢
  exact ⟨ad, cap, rfl, hr2, hb⟩
/-- All that the last look asks of a world. -/
structure Look (w W : World) (n bs cs cm bm bx : Nat) (L : Value) (ak an sz : Int) (av : Value) (f : Nat → Bool) : Prop where
  set : SetF W bs cs n f
  ref : RefAt W L cm n f
  box : W.cell? ⟨bm, 0, none⟩ = some L
  act : W.cell? ⟨bx, 1, none⟩ = some (.int .i64 an)
  act0 : W.cell? ⟨bx, 0, none⟩ = some (.int .i64 ak)
  act2 : W.cell? ⟨bx, 2, none⟩ = some (.int .i64 sz)
  act3 : W.cell? ⟨bx, 3, none⟩ = some av
  tab : Tab W
  bml : bm < W.heap.size
  bxl : bx < W.heap.size
  bel : Below w.heap.size w W
theorem Look.below {w W W' : World} {n bs cs cm bm bx : Nat} {L : Value} {ak an sz : Int} {av : Value} {f : Nat → Bool} (h : Look w W n bs cs cm bm bx L ak an sz av f) (hb : Below W.heap.size W W') : Look w W' n bs cs cm bm bx L ak an sz av f :=
  ⟨h.set.below hb, h.ref.below hb, (hb.cell (p := ⟨bm, 0, none⟩) h.bml).trans h.box, (hb.cell (p := ⟨bx, 1, none⟩) h.bxl).trans h.act, (hb.cell (p := ⟨bx, 0, none⟩) h.bxl).trans h.act0, (hb.cell (p := ⟨bx, 2, none⟩) h.bxl).trans h.act2, (hb.cell (p := ⟨bx, 3, none⟩) h.bxl).trans h.act3, tab_below h.tab hb, Nat.lt_of_lt_of_le h.bml hb.size, Nat.lt_of_lt_of_le h.bxl hb.size, h.bel.trans (hb.mono h.bel.size)⟩
theorem Look.drewN {w W : World} {n bs cs cm bm bx : Nat} {L : Value} {ak an sz : Int} {av : Value} {f : Nat → Bool} (h : Look w W n bs cs cm bm bx L ak an sz av f) (k : Nat) : Look w (W.drewN k) n bs cs cm bm bx L ak an sz av f := h.below (below_drewN (Below.refl _ _) k)
theorem Look.drew {w W : World} {n bs cs cm bm bx : Nat} {L : Value} {ak an sz : Int} {av : Value} {f : Nat → Bool} (h : Look w W n bs cs cm bm bx L ak an sz av f) : Look w W.drew n bs cs cm bm bx L ak an sz av f := h.below (Below.refl _ _).drew
theorem Look.alloc {w W : World} {n bs cs cm bm bx : Nat} {L : Value} {ak an sz : Int} {av : Value} {f : Nat → Bool} (h : Look w W n bs cs cm bm bx L ak an sz av f) (o : Obj) : Look w (W.alloc o) n bs cs cm bm bx L ak an sz av f := h.below ((Below.refl _ _).alloc (Nat.le_refl _) o)
theorem Look.end_ {w W : World} {n bs cs cm bm bx len k : Nat} {L : Value} {ak an sz : Int} {av : Value} {f : Nat → Bool} (h : Look w W n bs cs cm bm bx L ak an sz av f) (hk : k < len) : PlayRel n bs cs cm bm len L w (.int .i64 ((k : Int) + 1)) W :=
  ⟨k + 1, by omega, by simp, h.bel, h.set.lts.1, h.set.lts.2, h.ref.lt_c, h.bml, h.box, f, h.set, h.ref⟩

/-- A block that neither call writes. -/
theorem cell_two {W W1 W2 : World} {p q b o : Nat} {v : Value} (h1 : Only p W W1) (h2 : Only q W1 W2) (hc : W.cell? ⟨b, o, none⟩ = some v) (hp : b ≠ p) (hq : b ≠ q) : W2.cell? ⟨b, o, none⟩ = some v := by
  have hb := World.block_lt_of_cell? W _ hc
  have e1 : W1.cell? ⟨b, o, none⟩ = some v := (World.cell?_of_block (w := W) (a := ⟨b, o, none⟩) (h1.block b hb (by simpa using hp))).trans hc
  have hb1 := World.block_lt_of_cell? W1 _ e1
  exact (World.cell?_of_block (w := W1) (a := ⟨b, o, none⟩) (h2.block b hb1 (by simpa using hq))).trans e1
theorem Look.two {w W W1 W2 : World} {n cs cm bm bx p q : Nat} {L : Value} {ak an sz : Int} {av : Value} {f f' : Nat → Bool} (h : Look w W n (cs + 1) cs cm bm bx L ak an sz av f) (h1 : Only p W W1) (h2 : Only q W1 W2)
    (hG : Glob w) (hs : SetF W2 (cs + 1) cs n f') (hr : RefAt W2 L cm n f') (hpq : (p = cs ∧ q = cm) ∨ (p = cm ∧ q = cs)) (d1 : w.heap.size ≤ cs) (d2 : w.heap.size ≤ cm) (d3 : bm ≠ cs) (d4 : bm ≠ cm) (d5 : bx ≠ cs) (d6 : bx ≠ cm) :
    Look w W2 n (cs + 1) cs cm bm bx L ak an sz av f' := by
  have hp : bm ≠ p ∧ bm ≠ q ∧ bx ≠ p ∧ bx ≠ q ∧ w.heap.size ≤ p ∧ w.heap.size ≤ q := by omega
  obtain ⟨p1, p2, p3, p4, p5, p6⟩ := hp
  have hbel := below_only (below_only h.bel h1 h.bel.size p5) h2 (Nat.le_trans h.bel.size h1.size) p6
  exact ⟨hs, hr, cell_two h1 h2 h.box p1 p2, cell_two h1 h2 h.act p3 p4, cell_two h1 h2 h.act0 p3 p4, cell_two h1 h2 h.act2 p3 p4, cell_two h1 h2 h.act3 p3 p4, (hG.below hbel).tab,
    Nat.lt_of_lt_of_le h.bml (Nat.le_trans h1.size h2.size), Nat.lt_of_lt_of_le h.bxl (Nat.le_trans h1.size h2.size), hbel⟩
theorem putF_add (f : Nat → Bool) (n : Nat) (i : Int) (j : Nat) : putF f n i true j = addF f n i j := by
  unfold putF addF
  by_cases h : (j : Int) = i ∧ j < n
  · simp [h]
  · simp [h]
theorem putF_del (f : Nat → Bool) (n : Nat) (i : Int) (j : Nat) (ho : ∀ k, f k = true → k < n) : putF f n i false j = delF f i j := by
  unfold putF delF
  by_cases h : (j : Int) = i
  · by_cases hj : j < n
    · simp [h, hj]
    · have : f j = false := by cases hx : f j with
        | false => rfl
        | true => exact absurd (ho j hx) hj
      simp [hj, this]
  · simp [h]
theorem memI_in (f : Nat → Bool) (n : Nat) (i : Int) (ho : ∀ k, f k = true → k < n) : (decide (0 ≤ i ∧ i < n) && (memI f i != false)) = memI f i := by
  unfold memI
  cases hx : f i.toNat with
  | false => simp
  | true =>
    have := ho _ hx
    by_cases h0 : 0 ≤ i
    · have : i < n := by omega
      simp [h0, this]
    · simp [h0]

/-- The look for the least one, by the document's set. -/
def FindRel (w : World) (n cs cm bm bx : Nat) (L : Value) (ak an sz : Int) (av : Value) (f : Nat → Bool) (a b c : Value) (wr : World) : Prop :=
  ∃ k : Nat, k ≤ n ∧ c = .int .i64 (k : Int) ∧ Look w wr n (cs + 1) cs cm bm bx L ak an sz av f ∧
    ((a = .int .i64 0 ∧ b = .bool false ∧ ∀ j : Nat, j < k → ¬ (an ≤ (j : Int) ∧ f j = true)) ∨
     (∃ j0 : Nat, j0 < k ∧ a = .int .i64 (j0 : Int) ∧ b = .bool true ∧ an ≤ (j0 : Int) ∧ f j0 = true ∧ ∀ j : Nat, j < j0 → ¬ (an ≤ (j : Int) ∧ f j = true)))

/-- What the switch leaves. -/
def CutR (w wx : World) (n cs cm bm bx : Nat) (L : Value) (ak an sz : Int) (av : Value) (s13 s14 : Value) : Prop :=
  ∃ (x : Bool) (f : Nat → Bool), s13 = .bool x ∧ s14 = .bool x ∧ Look w wx n (cs + 1) cs cm bm bx L ak an sz av f

set_option maxHeartbeats 6400000 in
set_option maxRecDepth 100000 in
theorem bitsPlays_loop {w : World} (n : Nat) {vf vl : Value} {xs : List Int} {l : List ActV} (hn : n ≤ 300) (hG : Glob w) (hvf : Reads w vf xs) (hvl : ReadsActs w vl l) (hfar : farB l = false) (hxl : xs.length ≤ 200) (hin : Within n xs) :
    Calls Tryd.prog 3 #[.int .i64 (n : Int), vf, vl] w fun e w' => e = .returned (.bool true) ∧ Below w.heap.size w w' := by
  have hf2 := hfar
  unfold farB at hf2
  rw [Bool.or_eq_false_iff] at hf2
  have hll : l.length ≤ 60 := by have := of_decide_eq_false hf2.1; omega
  have hal : ∀ k, k < l.length → (l.getD k default).nums.length ≤ 200 := fun k hk => by
    have := (List.any_eq_false.1 hf2.2) (l.getD k default) (by rw [List.getD_eq_getElem?_getD, List.getElem?_eq_getElem hk]; exact List.getElem_mem hk)
    simpa using this
  have HAL := Lib.hid hal
  have HVF := Lib.hid hvf
  have HVL := Lib.hid hvl
  have HFAR := Lib.hid hfar
  have HIN := Lib.hid hin
  have HG := Lib.hid hG
  obtain ⟨fa, fc, rfl, _⟩ := hvf
  obtain ⟨la, lc, rfl, hacts⟩ := hvl
  have HAC := Lib.hid hacts
  have hd1 : decide ((200 : Int) < (xs.length : Int)) = false := by simp; omega
  have hd2 : decide ((300 : Int) < (n : Int)) = false := by simp; omega
  have HTN := Lib.hid (show (n : Int).toNat = n by omega)
  clear hf2 hal hfar hin hG hacts
  go_enter Tryd.func3, Tryd.ntmps3
  go_wp2_with fail
  refine (alive_yes _ HG.out).mono ?_
  rintro e w1 ⟨rfl, hb1⟩
  have HB1 := Lib.hid hb1
  have hz1 := hb1.size
  have HVF1 := Lib.hid (HVF.out.below hb1)
  have HVL1 := Lib.hid (show ReadsActs w1 (.slice la l.length lc) l from ⟨la, lc, rfl, fun k hk => by
    obtain ⟨p, h1, h2, h3⟩ := HAC.out k hk
    exact ⟨p, h1, h2, h3.below hb1⟩⟩)
  clear hb1
  go_wp2_with fail
  refine (far_any HVL1.out (by omega)).mono ?_
  rintro e wq ⟨rfl, hwq⟩
  rw [hwq, HFAR.out]
  clear hwq wq
  go_wp2_with fail
  clear hd1 hd2
  refine (of_int' _ (by omega) (by omega) HVF1.out (by omega)).mono ?_
  rw [HTN.out]
  rintro e w2 ⟨hb2, hcase⟩
  obtain ⟨_, rfl, hset⟩ := hcase.resolve_right (fun h => h.1 HIN.out)
  have HS2 := Lib.hid hset
  have HB2 := Lib.hid (HB1.out.trans (hb2.mono hz1))
  have hz2 := hb2.size
  have hlt2 := hset.lts
  obtain ⟨hl2a, hl2b⟩ := hlt2
  have HVF2 := Lib.hid (HVF1.out.below hb2)
  generalize hcs : w1.heap.size = cs at *
  have HCS := Lib.hid hcs
  clear hb2 hset hcs
  go_wp2_with fail
  refine (refOf_int _ (by omega) (by omega) HVF2.out (by omega)).mono ?_
  rw [HTN.out]
  rintro e w3 ⟨hb3, hcase⟩
  obtain ⟨_, L, cm, hcm, rfl, href⟩ := hcase.resolve_right (fun h => h.1 HIN.out)
  have hz3 := hb3.size
  have HS3 := Lib.hid (HS2.out.below hb3)
  have HR3 := Lib.hid href
  have HB3 := Lib.hid (HB2.out.trans (hb3.mono (by omega)))
  have hl3 := href.lt_c
  have hLv := href.val
  clear hb3 href HS2 HB2 HVF2 HVF1 HVL1
  subst hLv
  go_wp2_with fail
  go_loopw [11] (fun i wr => PlayRel n (cs + 1) cs cm w3.heap.size l.length (.slice (some ⟨cm, 0, none⟩) n n) w i wr) (fun i _ => l.length - (intOf i).toNat)
  case atStart =>
    have hbb : Below w3.heap.size w3 (w3.alloc (.cells #[.slice (some ⟨cm, 0, none⟩) n n] 33)) := (Below.refl _ _).alloc (Nat.le_refl _) _
    refine ⟨0, Nat.zero_le _, rfl, HB3.out.trans (hbb.mono (by omega)), ?_, ?_, ?_, ?_, ?_, hasL xs, HS3.out.below hbb, HR3.out.below hbb⟩
    · simp; omega
    · simp; omega
    · simp; omega
    · simp
    · simp
  case round =>
    obtain ⟨k, hk, rfl, hbel, h1, h2, h3, h4, hbm, f, hset, href⟩ := hrel
    have HB := Lib.hid hbel
    have HS := Lib.hid hset
    have HR := Lib.hid href
    have hbs := hbel.size
    clear hbel hset href HS3 HR3 HB3
    by_cases hlt : k < l.length
    · obtain ⟨⟨pb, po, ps⟩, hp, hps, hact⟩ := HAC.out k hlt
      simp only at hps hact
      subst hps
      have HRW := Lib.hid hact.rd
      have hact' := hact.below HB.out
      have ea : po + 4 * k = po + k * 4 := by omega
      rw [ea] at hact'
      have a0 := hact'.c0
      have a1 := hact'.c1
      have a2 := hact'.c2
      have a3 := hact'.c3
      have HRD := Lib.hid hact'.rd
      have hnl := HAL.out k hlt
      generalize l.getD k default = A at *
      obtain ⟨ak, an, as_, av, al⟩ := A
      simp only at a0 a1 a2 a3 HRD HRW hnl
      have HHV := Lib.hid HAC
      obtain ⟨vad, vcap, hav, _⟩ := HRD.out
      have HAV := Lib.hid hav
      rw [hav] at a3 HRD HRW
      clear HAC hact hact' ea hav
      subst hp
      have k0 : (0 : Int) ≤ (k : Int) := by omega
      have k1 : (k : Int) < (l.length : Int) := by omega
      have LK := Lib.hid (show Look w (wr.alloc (.cells #[.int .i64 ak, .int .i64 an, .int .i64 as_, .slice vad al.length vcap] 38)) n (cs + 1) cs cm w3.heap.size wr.heap.size (.slice (some ⟨cm, 0, none⟩) n n) ak an as_ (.slice vad al.length vcap) f by
        have hbb : Below wr.heap.size wr (wr.alloc (.cells #[.int .i64 ak, .int .i64 an, .int .i64 as_, .slice vad al.length vcap] 38)) := (Below.refl _ _).alloc (Nat.le_refl _) _
        exact ⟨HS.out.below hbb, HR.out.below hbb, (hbb.cell (p := ⟨w3.heap.size, 0, none⟩) h4).trans hbm, by simp, by simp, by simp, by simp, (HG.out.below (HB.out.trans (hbb.mono hbs))).tab, by simp; omega, by simp, HB.out.trans (hbb.mono hbs)⟩)
      go_upto_block 2 with fail
      generalize wr.alloc (.cells #[.int .i64 ak, .int .i64 an, .int .i64 as_, .slice vad al.length vcap] 38) = wb at *
      generalize hbxx : wr.heap.size = bx at *
      generalize hbmm : w3.heap.size = bm at *
      have HBXX := Lib.hid hbxx
      have HBMM := Lib.hid hbmm
      clear hbxx hbmm HRD HAV a0 a1 a2 a3 hbm HB HS HR
      go_cut [13, 14, 15, 16, 17, 18, 19, 20, 21, 22, 23] from 64 to 227 (fun s13 s14 _ _ _ _ _ _ _ _ _ wx => CutR w wx n cs cm bm bx (.slice (some ⟨cm, 0, none⟩) n n) ak an as_ (.slice vad al.length vcap) s13 s14)
      case first =>
        have hbxl := LK.out.bxl
        by_cases hk6 : ak < 0 ∨ 5 < ak
        · as_aux_lemma =>
          have e0 : (ak == 0) = false := by rw [beq_eq_false_iff_ne]; omega
          have e1 : (ak == 1) = false := by rw [beq_eq_false_iff_ne]; omega
          have e2 : (ak == 2) = false := by rw [beq_eq_false_iff_ne]; omega
          have e3 : (ak == 3) = false := by rw [beq_eq_false_iff_ne]; omega
          have e4 : (ak == 4) = false := by rw [beq_eq_false_iff_ne]; omega
          have e5 : (ak == 5) = false := by rw [beq_eq_false_iff_ne]; omega
          clear hk6
          go_wp2_with fail
          go_meet
          exact ⟨false, f, rfl, rfl, LK.out⟩
        · rcases Int.lt_trichotomy ak 3 with hlt3 | heq3 | hgt3
          · by_cases hK0 : ak = 0
            · as_aux_lemma =>
              subst hK0
              have s0 := LK.out.act0
              have s1 := LK.out.act2
              have s3 := LK.out.act3
              clear hk6
              by_cases hsz : as_ < 0 ∨ 4096 < as_
              · go_wp2_with fail
                refine (of_size' _ hsz).mono ?_
                rintro e wq ⟨rfl, hwq⟩
                rw [hwq]
                clear hwq wq
                go_wp2_with fail
                refine (refOf_size _ _ _ hsz).mono ?_
                rintro e wC ⟨rfl, hbC⟩
                have LKC := Lib.hid ((LK.out.below hbC).alloc (.cells #[.slice none 0 0] 33))
                have t0 := (LK.out.below hbC).act0
                have t1 := (LK.out.below hbC).act2
                have t2 := (LK.out.below hbC).box
                have tz := (LK.out.below hbC).bml
                have tx := (LK.out.below hbC).bxl
                have HBC := Lib.hid hbC
                clear hbC s0 s1 s3
                by_cases hneg : as_ < 0
                · have hd3 : decide ((300 : Int) < as_) = false := by simp; omega
                  have hn3 : ¬ (300 : Int) < as_ := by omega
                  clear hsz
                  go_wp2_with fail
                  refine (with_join LKC.out.ref (rapart_nil _ _ (fun _ => false) (fun _ => rfl))).mono ?_
                  rintro e wE ⟨rfl, ho1, href1⟩
                  have hsE := LKC.out.set.only ho1 (by omega) (by omega)
                  have r0 := cell_two ho1 (only_refl cs wE) LKC.out.act0 (by omega) (by omega)
                  have HO1 := Lib.hid ho1
                  have HR1 := Lib.hid href1
                  have HSE := Lib.hid hsE
                  clear ho1 href1 hsE t0 t1 t2
                  go_wp2_with fail
                  refine (join_set HSE.out (.inl ⟨rfl, fun _ => rfl⟩)).mono ?_
                  rintro e wF ⟨rfl, ho2, hset2⟩
                  have HLK := Lib.hid (LKC.out.two HO1.out ho2 HG.out hset2 (HR1.out.only ho2 (by omega)) (.inr ⟨rfl, rfl⟩) (by omega) (by omega) (by omega) (by omega) (by omega) (by omega))
                  clear ho2 hset2 r0
                  go_wp2_with fail
                  go_meet
                  exact ⟨_, _, rfl, rfl, HLK.out⟩
                · have hd3 : (300 : Int) < as_ := by omega
                  clear hsz
                  go_wp2_with fail
                  go_ret
                  exact ⟨rfl, LKC.out.bel⟩
              · have hsz0 : 0 ≤ as_ := by omega
                have hsz1 : as_ ≤ 4096 := by omega
                clear hsz
                go_wp2_with fail
                refine (of_int' _ hsz0 hsz1 (HRW.out.below LK.out.bel) (by omega)).mono ?_
                rintro e wC ⟨hbC, hcase⟩
                have HBC := Lib.hid hbC
                have LKC := Lib.hid (LK.out.below hbC)
                have s0 := LKC.out.act0
                have s1 := LKC.out.act2
                have s3 := LKC.out.act3
                have hzC := hbC.size
                clear hbC
                by_cases hwi : Within as_.toNat al
                · obtain ⟨_, rfl, hset⟩ := hcase.resolve_right (fun h => h.1 hwi)
                  have HST := Lib.hid hset
                  clear hset
                  go_wp2_with fail
                  refine (refOf_int _ hsz0 hsz1 (HRW.out.below LKC.out.bel) (by omega)).mono ?_
                  rintro e wD ⟨hbD, hcase2⟩
                  obtain ⟨_, L2, c2, hc2, rfl, href⟩ := hcase2.resolve_right (fun h => h.1 hwi)
                  have hLv := href.val
                  have LKD := Lib.hid ((LKC.out.below hbD).alloc (.cells #[.slice (some ⟨c2, 0, none⟩) as_.toNat as_.toNat] 33))
                  have HST2 := Lib.hid ((HST.out.below hbD).below ((Below.refl _ _).alloc (Nat.le_refl _) (.cells #[.slice (some ⟨c2, 0, none⟩) as_.toNat as_.toNat] 33)))
                  have HRD2 := Lib.hid (href.below ((Below.refl _ _).alloc (Nat.le_refl _) (.cells #[.slice (some ⟨c2, 0, none⟩) as_.toNat as_.toNat] 33)))
                  have t0 := (LKC.out.below hbD).act0
                  have t1 := (LKC.out.below hbD).act2
                  have t2 := (LKC.out.below hbD).box
                  have tz := (LKC.out.below hbD).bml
                  have tx := (LKC.out.below hbD).bxl
                  have hzD := hbD.size
                  have hcl2 := href.lt_c
                  have hlS := HST.out.lts
                  obtain ⟨hlS1, hlS2⟩ := hlS
                  clear hbD href s0 s1 s3 hcase hcase2
                  subst hLv
                  by_cases hbig : 300 < as_
                  · go_wp2_with fail
                    go_ret
                    exact ⟨rfl, LKD.out.bel⟩
                  · have hd3 : decide ((300 : Int) < as_) = false := by simp; omega
                    go_wp2_with fail
                    refine (with_join LKD.out.ref (rapart_at HRD2.out (by omega))).mono ?_
                    rintro e wE ⟨rfl, ho1, href1⟩
                    have hsE := LKD.out.set.only ho1 (by omega) (by omega)
                    have hsT := HST2.out.only ho1 (by omega) (by omega)
                    have r0 := cell_two ho1 (only_refl cs wE) LKD.out.act0 (by omega) (by omega)
                    have HO1 := Lib.hid ho1
                    have HR1 := Lib.hid href1
                    have HSE := Lib.hid hsE
                    have HSTE := Lib.hid hsT
                    clear ho1 href1 hsE hsT t0 t1 t2
                    go_wp2_with fail
                    refine (join_set HSE.out (.inr ⟨_, _, _, rfl, HSTE.out, by omega, by omega⟩)).mono ?_
                    rintro e wF ⟨rfl, ho2, hset2⟩
                    have HLK := Lib.hid (LKD.out.two HO1.out ho2 HG.out hset2 (HR1.out.only ho2 (by omega)) (.inr ⟨rfl, rfl⟩) (by omega) (by omega) (by omega) (by omega) (by omega) (by omega))
                    clear ho2 hset2 r0
                    go_wp2_with fail
                    go_meet
                    exact ⟨_, _, rfl, rfl, HLK.out⟩
                · obtain ⟨_, rfl⟩ := hcase.resolve_left (fun h => hwi h.1)
                  go_wp2_with fail
                  refine (refOf_int _ hsz0 hsz1 (HRW.out.below LKC.out.bel) (by omega)).mono ?_
                  rintro e wD ⟨hbD, hcase2⟩
                  obtain ⟨_, rfl⟩ := hcase2.resolve_left (fun h => hwi h.1)
                  have LKC2 := LKC
                  clear LKC
                  have LKC := Lib.hid ((LKC2.out.below hbD).alloc (.cells #[.slice none 0 0] 33))
                  have t0 := (LKC2.out.below hbD).act0
                  have t1 := (LKC2.out.below hbD).act2
                  have t2 := (LKC2.out.below hbD).box
                  have tz := (LKC2.out.below hbD).bml
                  have tx := (LKC2.out.below hbD).bxl
                  clear hbD s0 s1 s3 hcase hcase2
                  by_cases hbig : 300 < as_
                  · go_wp2_with fail
                    go_ret
                    exact ⟨rfl, LKC.out.bel⟩
                  · have hd3 : decide ((300 : Int) < as_) = false := by simp; omega
                    go_wp2_with fail
                    refine (with_join LKC.out.ref (rapart_nil _ _ (fun _ => false) (fun _ => rfl))).mono ?_
                    rintro e wE ⟨rfl, ho1, href1⟩
                    have hsE := LKC.out.set.only ho1 (by omega) (by omega)
                    have r0 := cell_two ho1 (only_refl cs wE) LKC.out.act0 (by omega) (by omega)
                    have HO1 := Lib.hid ho1
                    have HR1 := Lib.hid href1
                    have HSE := Lib.hid hsE
                    clear ho1 href1 hsE t0 t1 t2
                    go_wp2_with fail
                    refine (join_set HSE.out (.inl ⟨rfl, fun _ => rfl⟩)).mono ?_
                    rintro e wF ⟨rfl, ho2, hset2⟩
                    have HLK := Lib.hid (LKC.out.two HO1.out ho2 HG.out hset2 (HR1.out.only ho2 (by omega)) (.inr ⟨rfl, rfl⟩) (by omega) (by omega) (by omega) (by omega) (by omega) (by omega))
                    clear ho2 hset2 r0
                    go_wp2_with fail
                    go_meet
                    exact ⟨_, _, rfl, rfl, HLK.out⟩
            · by_cases hK1 : ak = 1
              · as_aux_lemma =>
                subst hK1
                have s0 := LK.out.act0
                have s1 := LK.out.act2
                have s3 := LK.out.act3
                clear hk6
                by_cases hsz : as_ < 0 ∨ 4096 < as_
                · go_wp2_with fail
                  refine (of_size' _ hsz).mono ?_
                  rintro e wq ⟨rfl, hwq⟩
                  rw [hwq]
                  clear hwq wq
                  go_wp2_with fail
                  refine (refOf_size _ _ _ hsz).mono ?_
                  rintro e wC ⟨rfl, hbC⟩
                  have LKC := Lib.hid ((LK.out.below hbC).alloc (.cells #[.slice none 0 0] 33))
                  have t0 := (LK.out.below hbC).act0
                  have t1 := (LK.out.below hbC).act2
                  have t2 := (LK.out.below hbC).box
                  have tz := (LK.out.below hbC).bml
                  have tx := (LK.out.below hbC).bxl
                  have HBC := Lib.hid hbC
                  clear hbC s0 s1 s3
                  by_cases hneg : as_ < 0
                  · have hd3 : decide ((300 : Int) < as_) = false := by simp; omega
                    have hn3 : ¬ (300 : Int) < as_ := by omega
                    clear hsz
                    go_wp2_with fail
                    refine (with_minus LKC.out.ref (rapart_nil _ _ (fun _ => false) (fun _ => rfl))).mono ?_
                    rintro e wE ⟨rfl, ho1, href1⟩
                    have hsE := LKC.out.set.only ho1 (by omega) (by omega)
                    have r0 := cell_two ho1 (only_refl cs wE) LKC.out.act0 (by omega) (by omega)
                    have HO1 := Lib.hid ho1
                    have HR1 := Lib.hid href1
                    have HSE := Lib.hid hsE
                    clear ho1 href1 hsE t0 t1 t2
                    go_wp2_with fail
                    refine (minus_set HSE.out (.inl ⟨rfl, fun _ => rfl⟩)).mono ?_
                    rintro e wF ⟨rfl, ho2, hset2⟩
                    have HLK := Lib.hid (LKC.out.two HO1.out ho2 HG.out hset2 (HR1.out.only ho2 (by omega)) (.inr ⟨rfl, rfl⟩) (by omega) (by omega) (by omega) (by omega) (by omega) (by omega))
                    clear ho2 hset2 r0
                    go_wp2_with fail
                    go_meet
                    exact ⟨_, _, rfl, rfl, HLK.out⟩
                  · have hd3 : (300 : Int) < as_ := by omega
                    clear hsz
                    go_wp2_with fail
                    go_ret
                    exact ⟨rfl, LKC.out.bel⟩
                · have hsz0 : 0 ≤ as_ := by omega
                  have hsz1 : as_ ≤ 4096 := by omega
                  clear hsz
                  go_wp2_with fail
                  refine (of_int' _ hsz0 hsz1 (HRW.out.below LK.out.bel) (by omega)).mono ?_
                  rintro e wC ⟨hbC, hcase⟩
                  have HBC := Lib.hid hbC
                  have LKC := Lib.hid (LK.out.below hbC)
                  have s0 := LKC.out.act0
                  have s1 := LKC.out.act2
                  have s3 := LKC.out.act3
                  have hzC := hbC.size
                  clear hbC
                  by_cases hwi : Within as_.toNat al
                  · obtain ⟨_, rfl, hset⟩ := hcase.resolve_right (fun h => h.1 hwi)
                    have HST := Lib.hid hset
                    clear hset
                    go_wp2_with fail
                    refine (refOf_int _ hsz0 hsz1 (HRW.out.below LKC.out.bel) (by omega)).mono ?_
                    rintro e wD ⟨hbD, hcase2⟩
                    obtain ⟨_, L2, c2, hc2, rfl, href⟩ := hcase2.resolve_right (fun h => h.1 hwi)
                    have hLv := href.val
                    have LKD := Lib.hid ((LKC.out.below hbD).alloc (.cells #[.slice (some ⟨c2, 0, none⟩) as_.toNat as_.toNat] 33))
                    have HST2 := Lib.hid ((HST.out.below hbD).below ((Below.refl _ _).alloc (Nat.le_refl _) (.cells #[.slice (some ⟨c2, 0, none⟩) as_.toNat as_.toNat] 33)))
                    have HRD2 := Lib.hid (href.below ((Below.refl _ _).alloc (Nat.le_refl _) (.cells #[.slice (some ⟨c2, 0, none⟩) as_.toNat as_.toNat] 33)))
                    have t0 := (LKC.out.below hbD).act0
                    have t1 := (LKC.out.below hbD).act2
                    have t2 := (LKC.out.below hbD).box
                    have tz := (LKC.out.below hbD).bml
                    have tx := (LKC.out.below hbD).bxl
                    have hzD := hbD.size
                    have hcl2 := href.lt_c
                    have hlS := HST.out.lts
                    obtain ⟨hlS1, hlS2⟩ := hlS
                    clear hbD href s0 s1 s3 hcase hcase2
                    subst hLv
                    by_cases hbig : 300 < as_
                    · go_wp2_with fail
                      go_ret
                      exact ⟨rfl, LKD.out.bel⟩
                    · have hd3 : decide ((300 : Int) < as_) = false := by simp; omega
                      go_wp2_with fail
                      refine (with_minus LKD.out.ref (rapart_at HRD2.out (by omega))).mono ?_
                      rintro e wE ⟨rfl, ho1, href1⟩
                      have hsE := LKD.out.set.only ho1 (by omega) (by omega)
                      have hsT := HST2.out.only ho1 (by omega) (by omega)
                      have r0 := cell_two ho1 (only_refl cs wE) LKD.out.act0 (by omega) (by omega)
                      have HO1 := Lib.hid ho1
                      have HR1 := Lib.hid href1
                      have HSE := Lib.hid hsE
                      have HSTE := Lib.hid hsT
                      clear ho1 href1 hsE hsT t0 t1 t2
                      go_wp2_with fail
                      refine (minus_set HSE.out (.inr ⟨_, _, _, rfl, HSTE.out, by omega, by omega⟩)).mono ?_
                      rintro e wF ⟨rfl, ho2, hset2⟩
                      have HLK := Lib.hid (LKD.out.two HO1.out ho2 HG.out hset2 (HR1.out.only ho2 (by omega)) (.inr ⟨rfl, rfl⟩) (by omega) (by omega) (by omega) (by omega) (by omega) (by omega))
                      clear ho2 hset2 r0
                      go_wp2_with fail
                      go_meet
                      exact ⟨_, _, rfl, rfl, HLK.out⟩
                  · obtain ⟨_, rfl⟩ := hcase.resolve_left (fun h => hwi h.1)
                    go_wp2_with fail
                    refine (refOf_int _ hsz0 hsz1 (HRW.out.below LKC.out.bel) (by omega)).mono ?_
                    rintro e wD ⟨hbD, hcase2⟩
                    obtain ⟨_, rfl⟩ := hcase2.resolve_left (fun h => hwi h.1)
                    have LKC2 := LKC
                    clear LKC
                    have LKC := Lib.hid ((LKC2.out.below hbD).alloc (.cells #[.slice none 0 0] 33))
                    have t0 := (LKC2.out.below hbD).act0
                    have t1 := (LKC2.out.below hbD).act2
                    have t2 := (LKC2.out.below hbD).box
                    have tz := (LKC2.out.below hbD).bml
                    have tx := (LKC2.out.below hbD).bxl
                    clear hbD s0 s1 s3 hcase hcase2
                    by_cases hbig : 300 < as_
                    · go_wp2_with fail
                      go_ret
                      exact ⟨rfl, LKC.out.bel⟩
                    · have hd3 : decide ((300 : Int) < as_) = false := by simp; omega
                      go_wp2_with fail
                      refine (with_minus LKC.out.ref (rapart_nil _ _ (fun _ => false) (fun _ => rfl))).mono ?_
                      rintro e wE ⟨rfl, ho1, href1⟩
                      have hsE := LKC.out.set.only ho1 (by omega) (by omega)
                      have r0 := cell_two ho1 (only_refl cs wE) LKC.out.act0 (by omega) (by omega)
                      have HO1 := Lib.hid ho1
                      have HR1 := Lib.hid href1
                      have HSE := Lib.hid hsE
                      clear ho1 href1 hsE t0 t1 t2
                      go_wp2_with fail
                      refine (minus_set HSE.out (.inl ⟨rfl, fun _ => rfl⟩)).mono ?_
                      rintro e wF ⟨rfl, ho2, hset2⟩
                      have HLK := Lib.hid (LKC.out.two HO1.out ho2 HG.out hset2 (HR1.out.only ho2 (by omega)) (.inr ⟨rfl, rfl⟩) (by omega) (by omega) (by omega) (by omega) (by omega) (by omega))
                      clear ho2 hset2 r0
                      go_wp2_with fail
                      go_meet
                      exact ⟨_, _, rfl, rfl, HLK.out⟩
              · as_aux_lemma =>
                have hK2 : ak = 2 := by omega
                subst hK2
                have s0 := LK.out.act0
                have s1 := LK.out.act2
                have s3 := LK.out.act3
                clear hk6
                by_cases hsz : as_ < 0 ∨ 4096 < as_
                · go_wp2_with fail
                  refine (of_size' _ hsz).mono ?_
                  rintro e wq ⟨rfl, hwq⟩
                  rw [hwq]
                  clear hwq wq
                  go_wp2_with fail
                  refine (refOf_size _ _ _ hsz).mono ?_
                  rintro e wC ⟨rfl, hbC⟩
                  have LKC := Lib.hid ((LK.out.below hbC).alloc (.cells #[.slice none 0 0] 33))
                  have t0 := (LK.out.below hbC).act0
                  have t1 := (LK.out.below hbC).act2
                  have t2 := (LK.out.below hbC).box
                  have tz := (LK.out.below hbC).bml
                  have tx := (LK.out.below hbC).bxl
                  have HBC := Lib.hid hbC
                  clear hbC s0 s1 s3
                  by_cases hneg : as_ < 0
                  · have hd3 : decide ((300 : Int) < as_) = false := by simp; omega
                    have hn3 : ¬ (300 : Int) < as_ := by omega
                    clear hsz
                    go_wp2_with fail
                    refine (with_meet LKC.out.ref (rapart_nil _ _ (fun _ => false) (fun _ => rfl))).mono ?_
                    rintro e wE ⟨rfl, ho1, href1⟩
                    have hsE := LKC.out.set.only ho1 (by omega) (by omega)
                    have r0 := cell_two ho1 (only_refl cs wE) LKC.out.act0 (by omega) (by omega)
                    have HO1 := Lib.hid ho1
                    have HR1 := Lib.hid href1
                    have HSE := Lib.hid hsE
                    clear ho1 href1 hsE t0 t1 t2
                    go_wp2_with fail
                    refine (meet_set HSE.out (.inl ⟨rfl, fun _ => rfl⟩)).mono ?_
                    rintro e wF ⟨rfl, ho2, hset2⟩
                    have HLK := Lib.hid (LKC.out.two HO1.out ho2 HG.out hset2 (HR1.out.only ho2 (by omega)) (.inr ⟨rfl, rfl⟩) (by omega) (by omega) (by omega) (by omega) (by omega) (by omega))
                    clear ho2 hset2 r0
                    go_wp2_with fail
                    go_meet
                    exact ⟨_, _, rfl, rfl, HLK.out⟩
                  · have hd3 : (300 : Int) < as_ := by omega
                    clear hsz
                    go_wp2_with fail
                    go_ret
                    exact ⟨rfl, LKC.out.bel⟩
                · have hsz0 : 0 ≤ as_ := by omega
                  have hsz1 : as_ ≤ 4096 := by omega
                  clear hsz
                  go_wp2_with fail
                  refine (of_int' _ hsz0 hsz1 (HRW.out.below LK.out.bel) (by omega)).mono ?_
                  rintro e wC ⟨hbC, hcase⟩
                  have HBC := Lib.hid hbC
                  have LKC := Lib.hid (LK.out.below hbC)
                  have s0 := LKC.out.act0
                  have s1 := LKC.out.act2
                  have s3 := LKC.out.act3
                  have hzC := hbC.size
                  clear hbC
                  by_cases hwi : Within as_.toNat al
                  · obtain ⟨_, rfl, hset⟩ := hcase.resolve_right (fun h => h.1 hwi)
                    have HST := Lib.hid hset
                    clear hset
                    go_wp2_with fail
                    refine (refOf_int _ hsz0 hsz1 (HRW.out.below LKC.out.bel) (by omega)).mono ?_
                    rintro e wD ⟨hbD, hcase2⟩
                    obtain ⟨_, L2, c2, hc2, rfl, href⟩ := hcase2.resolve_right (fun h => h.1 hwi)
                    have hLv := href.val
                    have LKD := Lib.hid ((LKC.out.below hbD).alloc (.cells #[.slice (some ⟨c2, 0, none⟩) as_.toNat as_.toNat] 33))
                    have HST2 := Lib.hid ((HST.out.below hbD).below ((Below.refl _ _).alloc (Nat.le_refl _) (.cells #[.slice (some ⟨c2, 0, none⟩) as_.toNat as_.toNat] 33)))
                    have HRD2 := Lib.hid (href.below ((Below.refl _ _).alloc (Nat.le_refl _) (.cells #[.slice (some ⟨c2, 0, none⟩) as_.toNat as_.toNat] 33)))
                    have t0 := (LKC.out.below hbD).act0
                    have t1 := (LKC.out.below hbD).act2
                    have t2 := (LKC.out.below hbD).box
                    have tz := (LKC.out.below hbD).bml
                    have tx := (LKC.out.below hbD).bxl
                    have hzD := hbD.size
                    have hcl2 := href.lt_c
                    have hlS := HST.out.lts
                    obtain ⟨hlS1, hlS2⟩ := hlS
                    clear hbD href s0 s1 s3 hcase hcase2
                    subst hLv
                    by_cases hbig : 300 < as_
                    · go_wp2_with fail
                      go_ret
                      exact ⟨rfl, LKD.out.bel⟩
                    · have hd3 : decide ((300 : Int) < as_) = false := by simp; omega
                      go_wp2_with fail
                      refine (with_meet LKD.out.ref (rapart_at HRD2.out (by omega))).mono ?_
                      rintro e wE ⟨rfl, ho1, href1⟩
                      have hsE := LKD.out.set.only ho1 (by omega) (by omega)
                      have hsT := HST2.out.only ho1 (by omega) (by omega)
                      have r0 := cell_two ho1 (only_refl cs wE) LKD.out.act0 (by omega) (by omega)
                      have HO1 := Lib.hid ho1
                      have HR1 := Lib.hid href1
                      have HSE := Lib.hid hsE
                      have HSTE := Lib.hid hsT
                      clear ho1 href1 hsE hsT t0 t1 t2
                      go_wp2_with fail
                      refine (meet_set HSE.out (.inr ⟨_, _, _, rfl, HSTE.out, by omega, by omega⟩)).mono ?_
                      rintro e wF ⟨rfl, ho2, hset2⟩
                      have HLK := Lib.hid (LKD.out.two HO1.out ho2 HG.out hset2 (HR1.out.only ho2 (by omega)) (.inr ⟨rfl, rfl⟩) (by omega) (by omega) (by omega) (by omega) (by omega) (by omega))
                      clear ho2 hset2 r0
                      go_wp2_with fail
                      go_meet
                      exact ⟨_, _, rfl, rfl, HLK.out⟩
                  · obtain ⟨_, rfl⟩ := hcase.resolve_left (fun h => hwi h.1)
                    go_wp2_with fail
                    refine (refOf_int _ hsz0 hsz1 (HRW.out.below LKC.out.bel) (by omega)).mono ?_
                    rintro e wD ⟨hbD, hcase2⟩
                    obtain ⟨_, rfl⟩ := hcase2.resolve_left (fun h => hwi h.1)
                    have LKC2 := LKC
                    clear LKC
                    have LKC := Lib.hid ((LKC2.out.below hbD).alloc (.cells #[.slice none 0 0] 33))
                    have t0 := (LKC2.out.below hbD).act0
                    have t1 := (LKC2.out.below hbD).act2
                    have t2 := (LKC2.out.below hbD).box
                    have tz := (LKC2.out.below hbD).bml
                    have tx := (LKC2.out.below hbD).bxl
                    clear hbD s0 s1 s3 hcase hcase2
                    by_cases hbig : 300 < as_
                    · go_wp2_with fail
                      go_ret
                      exact ⟨rfl, LKC.out.bel⟩
                    · have hd3 : decide ((300 : Int) < as_) = false := by simp; omega
                      go_wp2_with fail
                      refine (with_meet LKC.out.ref (rapart_nil _ _ (fun _ => false) (fun _ => rfl))).mono ?_
                      rintro e wE ⟨rfl, ho1, href1⟩
                      have hsE := LKC.out.set.only ho1 (by omega) (by omega)
                      have r0 := cell_two ho1 (only_refl cs wE) LKC.out.act0 (by omega) (by omega)
                      have HO1 := Lib.hid ho1
                      have HR1 := Lib.hid href1
                      have HSE := Lib.hid hsE
                      clear ho1 href1 hsE t0 t1 t2
                      go_wp2_with fail
                      refine (meet_set HSE.out (.inl ⟨rfl, fun _ => rfl⟩)).mono ?_
                      rintro e wF ⟨rfl, ho2, hset2⟩
                      have HLK := Lib.hid (LKC.out.two HO1.out ho2 HG.out hset2 (HR1.out.only ho2 (by omega)) (.inr ⟨rfl, rfl⟩) (by omega) (by omega) (by omega) (by omega) (by omega) (by omega))
                      clear ho2 hset2 r0
                      go_wp2_with fail
                      go_meet
                      exact ⟨_, _, rfl, rfl, HLK.out⟩
          · as_aux_lemma =>
            subst heq3
            have s0 := LK.out.act0
            have s1 := LK.out.act
            have s2 := LK.out.box
            clear hk6
            go_wp2_with fail
            refine (add_set LK.out.set _).mono ?_
            rintro e wA ⟨rfl, ho1, hset1⟩
            have hrefA := LK.out.ref.only ho1 (by omega)
            have t1 := cell_two ho1 (only_refl cs wA) LK.out.act (by omega) (by omega)
            have t2 := cell_two ho1 (only_refl cs wA) LK.out.box (by omega) (by omega)
            have HO1 := Lib.hid ho1
            have HS1 := Lib.hid hset1
            have HRA := Lib.hid hrefA
            clear ho1 hset1 hrefA s0 s1 s2
            go_wp2_with fail
            refine (put_any HRA.out _ true).mono ?_
            rintro e wB ⟨rfl, ho2, href2⟩
            have HLK := Lib.hid (LK.out.two HO1.out ho2 HG.out (HS1.out.only ho2 (by omega) (by omega)) (href2.congr (putF_add f n an)) (.inl ⟨rfl, rfl⟩) (by omega) (by omega) (by omega) (by omega) (by omega) (by omega))
            clear ho2 href2
            go_wp2_with fail
            go_meet
            refine ⟨_, _, rfl, ?_, HLK.out⟩
            first | rfl | (cases memI f an <;> simp)
          · by_cases h44 : ak = 4
            · as_aux_lemma =>
              subst h44
              have s0 := LK.out.act0
              have s1 := LK.out.act
              have s2 := LK.out.box
              clear hk6 hgt3
              go_wp2_with fail
              refine (del_set LK.out.set _).mono ?_
              rintro e wA ⟨rfl, ho1, hset1⟩
              have hrefA := LK.out.ref.only ho1 (by omega)
              have t1 := cell_two ho1 (only_refl cs wA) LK.out.act (by omega) (by omega)
              have t2 := cell_two ho1 (only_refl cs wA) LK.out.box (by omega) (by omega)
              have HO1 := Lib.hid ho1
              have HS1 := Lib.hid hset1
              have HRA := Lib.hid hrefA
              clear ho1 hset1 hrefA s0 s1 s2
              go_wp2_with fail
              refine (put_any HRA.out _ false).mono ?_
              rintro e wB ⟨rfl, ho2, href2⟩
              have HOT := Lib.hid LK.out.set.out
              have HLK := Lib.hid (LK.out.two HO1.out ho2 HG.out (HS1.out.only ho2 (by omega) (by omega)) (href2.congr (fun j => putF_del f n an j HOT.out)) (.inl ⟨rfl, rfl⟩) (by omega) (by omega) (by omega) (by omega) (by omega) (by omega))
              clear ho2 href2
              go_wp2_with fail
              go_meet
              refine ⟨memI f an, _, rfl, ?_, HLK.out⟩
              have h1 := memI_in f n an HOT.out
              rw [← h1]
              cases memI f an <;> simp
            · as_aux_lemma =>
              have h55 : ak = 5 := by omega
              subst h55
              have s0 := LK.out.act0
              have s1 := LK.out.act
              clear hk6 hgt3 h44
              go_wp2_with fail
              refine (next_set LK.out.set LK.out.tab _).mono ?_
              intro e wA hnx
              obtain ⟨i5, o5, n5, rfl, hni, rfl⟩ := nextF_is hnx
              have LK5 := Lib.hid (LK.out.drewN n5)
              have HNI := Lib.hid hni
              clear hnx hni s0 s1
              generalize wb.drewN n5 = w5 at *
              go_wp2_with fail
              go_loopw [21, 22, 23] (fun a b c wr2 => FindRel w n cs cm bm bx (.slice (some ⟨cm, 0, none⟩) n n) 5 an as_ (.slice vad al.length vcap) f a b c wr2) (fun _ _ c _ => n - (intOf c).toNat)
              case atStart => exact ⟨0, Nat.zero_le _, rfl, LK5.out, .inl ⟨rfl, rfl, fun j hj => by omega⟩⟩
              case round =>
                obtain ⟨kk, hkk, rfl, hlk, hst⟩ := hrel
                have LK6 := Lib.hid hlk
                have s0 := hlk.act
                have s1 := hlk.box
                clear hlk
                rcases hst with ⟨rfl, rfl, hno⟩ | ⟨j0, hj0, rfl, rfl, hj1, hj2, hj3⟩
                · have HNO := Lib.hid hno
                  clear hno
                  by_cases hlt5 : kk < n
                  · have d1 : decide ((kk : Int) < (n : Int)) = true := by simp; omega
                    have d0 : (kk : Int) < (n : Int) := by omega
                    by_cases hge : an ≤ (kk : Int)
                    · have d2 : decide (an ≤ (kk : Int)) = true := by simp; omega
                      go_wp2_with fail
                      refine (refHas_any (.inr ⟨_, _, LK6.out.ref⟩) _).mono ?_
                      rintro e wC ⟨rfl, hwC⟩
                      have em : memI f (kk : Int) = f kk := by simp [memI]
                      rw [em]
                      have LK7 := Lib.hid (show Look w wC n (cs + 1) cs cm bm bx (.slice (some ⟨cm, 0, none⟩) n n) 5 an as_ (.slice vad al.length vcap) f by rw [hwC]; exact LK6.out.alloc _)
                      clear hwC em
                      cases hf5 : f kk with
                      | true =>
                        have HF5 := Lib.hid hf5
                        clear hf5
                        go_wp2
                        go_roundw
                        case rel => exact ⟨kk + 1, by omega, by go_num, LK7.out, .inr ⟨kk, by omega, rfl, rfl, hge, HF5.out, fun j hj => HNO.out j hj⟩⟩
                        case measure => simp [intOf]; omega
                      | false =>
                        have HF5 := Lib.hid hf5
                        clear hf5
                        go_wp2
                        go_roundw
                        case rel =>
                          refine ⟨kk + 1, by omega, by go_num, LK7.out, .inl ⟨rfl, rfl, fun j hj => ?_⟩⟩
                          rcases Nat.lt_or_ge j kk with h | h
                          · exact HNO.out j h
                          · rw [show j = kk by omega]; exact fun hx => by rw [HF5.out] at hx; cases hx.2
                        case measure => simp [intOf]; omega
                    · have d2 : decide (an ≤ (kk : Int)) = false := by simp; omega
                      have d3 : ¬ an ≤ (kk : Int) := hge
                      go_wp2
                      go_roundw
                      case rel =>
                        refine ⟨kk + 1, by omega, by go_num, LK6.out, .inl ⟨rfl, rfl, fun j hj => ?_⟩⟩
                        rcases Nat.lt_or_ge j kk with h | h
                        · exact HNO.out j h
                        · rw [show j = kk by omega]; exact fun hx => hge hx.1
                      case measure => simp [intOf]; omega
                  · have d1 : decide ((kk : Int) < (n : Int)) = false := by simp; omega
                    have hnone : i5 = .int .i64 0 ∧ o5 = .bool false := by
                      rcases HNI.out with ⟨q, _, _, hq1, hq2, _⟩ | ⟨hq1, hq2, _⟩
                      · exact absurd ⟨by omega, hq1⟩ (HNO.out q (by have := LK6.out.set.out q hq1; omega))
                      · exact ⟨hq1, hq2⟩
                    obtain ⟨hi5, ho5⟩ := hnone
                    subst hi5 ho5
                    go_wp2_with fail
                    go_meet
                    exact ⟨false, f, rfl, rfl, LK6.out⟩
                · have HJ2 := Lib.hid hj2
                  have HJ3 := Lib.hid hj3
                  have hsome : i5 = .int .i64 (j0 : Int) ∧ o5 = .bool true := by
                    rcases HNI.out with ⟨q, hq0, hq00, hq1, hq2, hq3⟩ | ⟨_, _, hq3⟩
                    · have e : q = j0 := by
                        rcases Nat.lt_trichotomy q j0 with h | h | h
                        · exact absurd ⟨by omega, hq1⟩ (hj3 q h)
                        · exact h
                        · have := hq3 j0 (by omega) h
                          rw [hj2] at this; cases this
                      rw [e] at hq0
                      exact ⟨hq0, hq00⟩
                    · have := hq3 j0 (by omega)
                      rw [hj2] at this; cases this
                  obtain ⟨hi5, ho5⟩ := hsome
                  subst hi5 ho5
                  clear hj2 hj3
                  by_cases hlt5 : kk < n
                  · have d1 : decide ((kk : Int) < (n : Int)) = true := by simp; omega
                    go_wp2_with fail
                    go_meet
                    exact ⟨false, f, rfl, rfl, LK6.out⟩
                  · have d1 : decide ((kk : Int) < (n : Int)) = false := by simp; omega
                    go_wp2_with fail
                    go_meet
                    exact ⟨false, f, rfl, rfl, LK6.out⟩
      case rest =>
        as_aux_lemma =>
          obtain ⟨x, f', hs13, hs14, lk0⟩ := hcut
          subst hs13 hs14
          have LK2 := Lib.hid lk0
          clear LK lk0
          go_wp2_with fail
          have lk := LK2.out.drew
          generalize hNL : (its n f').length = NL at *
          have HNL := Lib.hid hNL
          clear hNL
          go_region_held3 (fun w' => w'.cell? ⟨bm, 0, none⟩ = some (.slice (some ⟨cm, 0, none⟩) n n) ∧ w'.cell? ⟨bx, 1, none⟩ = some (.int .i64 an)) (exact ⟨lk.box, lk.act⟩) (first
            | (go_at_call 22; refine (count_nl (by exact lk.set) HNL.out).mono ?_; rintro e wq ⟨rfl, hwq⟩; rw [hwq]; clear hwq wq)
            | (go_at_call 23; refine (refItems_nl (by exact lk.ref) HNL.out).mono ?_; rintro e wA ⟨adA, cpA, rfl, rdA, hbA⟩; (try have rdI := rdI.below hbA); have lk := lk.below hbA; clear hbA)
            | (go_at_call 24; refine (has_set (by exact lk.set) _).mono ?_; rintro e wB ⟨rfl, kB, rfl⟩; have lk := lk.drewN kB)
            | (go_at_call 21; refine (refHas_any (.inr ⟨_, _, by exact lk.ref⟩) _).mono ?_; rintro e wC ⟨rfl, rfl⟩; have lk := lk.alloc (.cells #[.slice (some ⟨cm, 0, none⟩) n n] 33))
            | (go_at_call 25; refine (size_at _ _ _ (by exact lk.set.csize)).mono ?_; rintro e wq ⟨rfl, hwq⟩; rw [hwq]; clear hwq wq)
            | (go_at_call 27; refine (items_nl (by exact lk.set) HNL.out (by exact lk.tab)).mono ?_; rintro e wD ⟨adD, cpD, rfl, rdI, hbD⟩; have lk := lk.below hbD; clear hbD)
            | (go_at_call 26; refine (ints_set (by exact rdI) (by exact rdA) (by have := its_le n f'; simp only [List.length_map]; omega) (by have := its_le n f'; simp only [List.length_map]; omega)).mono ?_; rintro e wE ⟨rfl, kE, rfl⟩; rw [decide_eq_true (rfl : (its n f').map (fun x : Nat => (x : Int)) = (its n f').map (fun x : Nat => (x : Int)))]; have lk := lk.drewN kE))
          all_goals go_wp2
          all_goals
            go_roundw
            case rel => rw [HBMM.out]; (repeat apply Exists.intro); exact ⟨Look.end_ lk hlt, rfl⟩
            case measure => simp [intOf]; omega
    · have hd : decide (k < l.length) = false := by simp; omega
      go_wp2
      go_ret
      exact ⟨rfl, HB.out⟩
end Go.Proofs.YtmdmanhjgbpgoaaDoor
