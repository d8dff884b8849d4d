/-
  Put: of a vector that isn't there, of one that is, and of one that is too long.
-/
import Derived.Test.YtoppjkdlloddmaaDoorL6
import Derived.Deep.RegionLaw
namespace Go.Proofs.YtoppjkdlloddmaaDoor
open Go.RowKit

theorem infoE : (Tryd.prog.info? 46).map (fun i => (i.zero, i.size, i.bytes)) = some (some (.agg #[.slice none 0 0, .int .i64 0]), 2, 32) := by kernel_rfl

section
variable {w W : World} {B b n m : Nat} {ev hv ev' v' : Value} {vl : Nat → Value} {vs : List (List Int)} {nx hs : Nat → Int}
def updV (f : Nat → Value) (k : Nat) (x : Value) : Nat → Value := fun j => if j = k then x else f j
/-- The table with one entry more. -/
theorem Tb.append (h : Tb w B b n m ev hv vl vs nx hs) {cs : List Value} (h2 : w.ownsRow B 46 2 ev n cs) (h3 : ∀ j, j < n → cs[j * 2]? = some (vl j) ∧ cs[j * 2 + 1]? = some (.int .i64 (nx j))) {o : Obj}
    (hg : (w.alloc o).grownBy W ev.ownBlock) (hown : W.ownsRow B 46 2 ev' (n + 1) (cs ++ [v', .int .i64 (-1)])) {xs : List Int} (hx : w.ownsRow B 21 1 v' xs.length (xs.map V32)) :
    Tb (W.setCell ⟨b, 0, none⟩ ev') B b (n + 1) m ev' hv (updV vl n v') (vs ++ [xs]) (upd nx n (-1)) hs ∧ Keep b B w (W.setCell ⟨b, 0, none⟩ ev') := by
  have hev : ∀ g, ev.ownBlock = some g → B ≤ g ∧ ∃ c, Blk w g 46 c := fun g hg' => owns_blk h2 hg'
  have hgr : w.grownBy W ev.ownBlock := by
    refine ⟨hg.os, hg.tape, hg.output, Nat.le_trans (by simp) hg.size, fun k hk hne => (hg.block k (by simp; omega) hne).trans (Below.heap_alloc _ _ _ hk)⟩
  have hb1 : Blk W b 43 #[ev, hv] := (hgr.block b h.blk.lt (fun e => by
    obtain ⟨_, c, hc⟩ := hev b e.symm
    exact hc.ne_ h.blk (by decide) rfl)).trans h.blk
  have hk1 : Keep b B w W := Keep.of_grown hgr (fun g hg' => by
    obtain ⟨h4, c, hc⟩ := hev g hg'
    exact ⟨.inr h4, 46, c, hc, .inr (.inl rfl)⟩)
  have hne : ∀ {e : TypeId} {size k : Nat} {v : Value} {xs : List Value}, w.ownsRow B e size v k xs → e ≠ 46 → e ≠ 43 → (W.setCell ⟨b, 0, none⟩ ev').ownsRow B e size v k xs := fun ho hne hnt =>
    owns_of ho fun g' hg' => by
      obtain ⟨_, cs', hb'⟩ := owns_blk ho hg'
      refine (heap_setCell_other W ⟨b, 0, none⟩ g' _ (fun e => hb'.ne_ h.blk hnt e)).trans (hgr.block g' hb'.lt (fun e => ?_))
      obtain ⟨_, c, hc⟩ := hev g' e.symm
      exact hb'.ne_ hc hne rfl
  have hl2 := h2.1
  obtain ⟨ds, h5, h6⟩ := h.hea
  refine ⟨⟨by rw [List.length_append, h.len]; rfl, hb1.set_ 0 ev', ⟨_, owns_of hown fun g' hg' => ?_, fun j hj => ?_⟩, ⟨ds, hne h5 (by decide) (by decide), h6⟩, fun j hj => ?_⟩, hk1.setCell (.inl rfl) hb1 (.inl rfl)⟩
  · obtain ⟨_, cs', hb'⟩ := owns_blk hown hg'
    exact heap_setCell_other W ⟨b, 0, none⟩ g' _ (fun e => hb'.ne_ hb1 (by decide) e)
  · rcases Nat.lt_or_ge j n with hjn | hjn
    · rw [List.getElem?_append_left (by omega), List.getElem?_append_left (by omega), upd_far _ _ _ _ (by omega)]
      simp only [updV, if_neg (show ¬ j = n by omega)]
      exact h3 j hjn
    · obtain rfl : j = n := by omega
      rw [List.getElem?_append_right (by omega), List.getElem?_append_right (by omega), upd_same, hl2]
      simp [updV]
  · rcases Nat.lt_or_ge j n with hjn | hjn
    · have := hne (h.vec j hjn) (by decide) (by decide)
      rw [getD_snoc_lt vs xs j (by rw [h.len]; exact hjn)]
      simpa only [updV, if_neg (show ¬ j = n by omega)] using this
    · obtain rfl : j = n := by omega
      have := hne hx (by decide) (by decide)
      have e : (vs ++ [xs]).getD j [] = xs := by rw [← h.len]; exact getD_snoc_at vs xs
      rw [e]
      simpa [updV] using this
end

set_option maxHeartbeats 400000 in
theorem put_long {w : World} (t : Value) (v : Value) (xs : List Int) (hv : R32 w v xs) (hx : 64 < xs.length) :
    Calls Tryd.prog 8 #[t, v] w fun e w' => e = .returned (.tuple #[.int .i64 0, .bool false, .iface 47 (.int .i64 2)]) ∧ w' = w := by
  obtain ⟨ad, cap, rfl, hv⟩ := hv
  clear hv
  have hd : decide ((64 : Int) < (xs.length : Int)) = true := by simp; omega
  go_enter Tryd.func8, Tryd.ntmps8
  go_wp2_with fail
  go_ret3
  exact ⟨rfl, rfl⟩

/-- What Put answers and leaves. -/
def PutF (B b : Nat) (vs : List (List Int)) (xs : List Int) (w : World) (e : Ending) (w' : World) : Prop :=
  Keep b B w w' ∧ ((∃ i, i < vs.length ∧ vs.getD i [] = xs ∧ e = .returned (.tuple #[.int .i64 (i : Int), .bool false, .nilIface]) ∧ Tab w' B b vs)
    ∨ ((∀ j, j < vs.length → vs.getD j [] ≠ xs) ∧ e = .returned (.tuple #[.int .i64 (vs.length : Int), .bool true, .nilIface]) ∧ Tab w' B b (vs ++ [xs])))

theorem nodup_snoc {vs : List (List Int)} {xs : List Int} (h : vs.Nodup) (hn : ∀ j, j < vs.length → vs.getD j [] ≠ xs) : (vs ++ [xs]).Nodup := by
  rw [List.nodup_append]
  refine ⟨h, by simp, fun a ha c hc => ?_⟩
  rw [List.mem_singleton.1 hc]
  obtain ⟨j, hj, he⟩ := List.getElem_of_mem ha
  have := hn j hj
  rw [List.getD_eq_getElem?_getD, List.getElem?_eq_getElem hj, Option.getD_some, he] at this
  exact this

theorem owns_slice {w : World} {base n : Nat} {e : TypeId} {size : Nat} {v : Value} {xs : List Value} (h : w.ownsRow base e size v n xs) : ∃ ad c, v = .slice ad n c := by
  rcases h.2 with ⟨rfl, rfl⟩ | ⟨g, cap, cur, rfl, _⟩
  · exact ⟨_, _, rfl⟩
  · exact ⟨_, _, rfl⟩
theorem news_two (w : World) (x y : Value) : ∀ j u, ([x, y] : List Value)[j]? = some u → (w.alloc (.cells #[x, y] 46)).cell? ((⟨w.heap.size, 0, none⟩ : Addr).add j) = some u := by
  intro j u hj
  match j, hj with
  | 0, hj => simp at hj; subst hj; simp [Addr.add]
  | 1, hj => simp at hj; subst hj; simp [Addr.add]
theorem one_two {w : World} {base n : Nat} {v : Value} {xs : List Value} {z : Int} (h : w.ownsRow base 21 1 v n xs) : ∀ u ∈ [v, Value.int .i64 z], u.oneCell' = true := by
  intro u hu
  rcases List.mem_cons.1 hu with rfl | hu
  · rcases h.2 with ⟨rfl, _⟩ | ⟨g, cap, cur, rfl, _⟩ <;> rfl
  · rw [List.mem_singleton.1 hu]; rfl

set_option maxHeartbeats 1000000 in
theorem put_new {w : World} {B b : Nat} {vs : List (List Int)} {v : Value} {xs : List Int} (h : Tab w B b vs) (hv : R32 w v xs) (hvo : Vok w b B v) (hx : xs.length ≤ 64) (hl : vs.length ≤ 999) (hB : B ≤ w.heap.size) :
    Calls Tryd.prog 8 #[.pointer (some ⟨b, 0, none⟩), v] w (PutF B b vs xs w) := by
  obtain ⟨i0, hi0, hz⟩ := Option.map_eq_some_iff.1 infoE
  simp only [Prod.mk.injEq] at hz
  obtain ⟨hz0, hz1, hz2⟩ := hz
  have HZ0 := Lib.hid hz0
  have HZ1 := Lib.hid hz1
  have HZ2 := Lib.hid hz2
  have HI := Lib.hid hi0
  have HTab := Lib.hid h
  have HV := Lib.hid hv
  have HVO := Lib.hid hvo
  obtain ⟨ad, cap, rfl, _⟩ := hv
  clear hz0 hz1 hz2 hi0 h hvo
  have hd : decide ((64 : Int) < (xs.length : Int)) = false := by simp; omega
  go_enter Tryd.func8, Tryd.ntmps8
  go_wp2_with fail
  refine (find_any HTab.out HV.out (by omega) (by omega)).mono ?_
  rintro e w1 ⟨hf, k1, rfl⟩
  rcases hf with ⟨i, hi, he, rfl⟩ | ⟨hno, rfl⟩
  · have HE := Lib.hid he
    clear he
    go_wp2_with fail
    go_ret3
    exact ⟨(Keep.refl b B w).drewN _, .inl ⟨i, hi, HE.out, rfl, HTab.out.drewN _⟩⟩
  · have HNO := Lib.hid hno
    have HV1 := Lib.hid (HV.out.drewN k1)
    have HVO1 : Hid (Vok (w.drewN k1) b B (.slice ad xs.length cap)) := HVO.out
    have HT1 := Lib.hid (HTab.out.drewN k1)
    have HK1 := Lib.hid ((Keep.refl b B w).drewN k1)
    have hB1 : B ≤ (w.drewN k1).heap.size := hB
    clear hno HTab HV HVO
    generalize w.drewN k1 = w1 at *
    go_wp2_with fail
    obtain ⟨m0, ev, hv0, vl, nx0, hs0, hT1, hch1, hnm, hmu, hnd, h64⟩ := HT1.out
    have HND := Lib.hid hnd
    have H64 := Lib.hid h64
    refine (room_any hT1 hch1 hnm hmu hB1 (by omega) h64).mono ?_
    rintro e w2 ⟨rfl, m, hv2, nx, hs, hT2, hch2, hlm, hmu2, hK2⟩
    clear hT1 hch1 hnm hmu hnd h64 HT1
    have HT2 := Lib.hid hT2
    have HC2 := Lib.hid hch2
    have HK2 := Lib.hid (HK1.out.trans hK2)
    have HV2 := Lib.hid (HV1.out.keep HVO1.out hK2)
    have hB2 : B ≤ w2.heap.size := Nat.le_trans hB1 hK2.size
    have hc0 := hT2.c0
    have hf0 := hT2.blk.frozen 0
    have hbl := hT2.blk.lt
    obtain ⟨cs, hown, hcs⟩ := hT2.ent
    have HOWN := Lib.hid hown
    have HCS := Lib.hid hcs
    obtain ⟨⟨ade, cae, hev⟩, _⟩ := hT2.slices
    have hgb : some b ≠ Value.ownBlock (.slice ade vs.length cae) := fun e => by
      obtain ⟨_, c, hc⟩ := owns_blk hown (g := b) (by rw [hev]; exact e.symm)
      exact hc.ne_ hT2.blk (by decide) rfl
    clear hT2 hch2 hK2 HK1 HV1 HVO1 hcs hown
    subst hev
    go_wp2_with fail
    go_region_law (first
      | (refine step_append_lies _ rfl (.tmp 36) (.tmp 40) 40 rfl B 46 i0 (.agg #[.slice none 0 0, .int .i64 0]) 2 32 Tryd.underlying40 HI.out HZ0.out HZ1.out HZ2.out rfl (by decide) (.slice ade vs.length cae) vs.length cs (by simp [Act.eval]) (by exact HOW3.out) ⟨w3.heap.size, 0, none⟩ 1 1 [.slice ad3 xs.length c3, .int .i64 (-1)] (by simp [Act.eval]) rfl (by exact HNW.out) HN1.out (by omega) (by unfold maxLen; omega) (by omega) (by simp; omega) (w3.heap.size + 1) (by simp) ?_
         intro g5 cap5 w5 hown5 hgrow5 hat5 hlt5
         have hc5 : w5.cell? ⟨b, 0, none⟩ = some (.slice ade vs.length cae) := hgrow5.cell (by exact hc3a) (by exact hgb)
         have hf5 : w5.frozen? ⟨b, 0, none⟩ = false := (World.frozen?_of_block (hgrow5.block b (by simp; omega) (by exact hgb))).trans hf3a
         have HO5 := Lib.hid hown5
         have HG5 := Lib.hid hgrow5
         clear hown5 hgrow5 hat5)
      | (go_simp
         go_at_call 16
         refine (clone_any (by exact HV2.out) (by omega)).mono ?_
         rintro e w3 ⟨v3, rfl, ho3, hb3⟩
         obtain ⟨ad3, c3, rfl⟩ := owns_slice ho3
         have hb3' : Below w2.heap.size w2 w3 := ⟨hb3.os, hb3.tape, hb3.output, hb3.size, hb3.block⟩
         have hz3 : w2.heap.size ≤ w3.heap.size := hb3'.size
         have HO3 := Lib.hid (owns_mono ho3 (show B ≤ _ from hB2))
         have hc3 : w3.cell? ⟨b, 0, none⟩ = some (.slice ade vs.length cae) := (hb3'.cell (p := ⟨b, 0, none⟩) hbl).trans hc0
         have hf3 : w3.frozen? ⟨b, 0, none⟩ = false := (hb3'.frozen (p := ⟨b, 0, none⟩) hbl).trans hf0
         have hc3a : (w3.alloc (.cells #[.slice ad3 xs.length c3, .int .i64 (-1)] 46)).cell? ⟨b, 0, none⟩ = some (.slice ade vs.length cae) := by rw [World.cell?_alloc_lt _ _ ⟨b, 0, none⟩ (show b < w3.heap.size by omega)]; exact hc3
         have hf3a : (w3.alloc (.cells #[.slice ad3 xs.length c3, .int .i64 (-1)] 46)).frozen? ⟨b, 0, none⟩ = false := by rw [World.frozen?_alloc_old _ _ ⟨b, 0, none⟩ (Nat.ne_of_lt (show b < w3.heap.size by omega))]; exact hf3
         have HT3 := Lib.hid (HT2.out.below hb3')
         have HOW3 := Lib.hid ((owns_of HOWN.out (fun g hg => hb3'.block g (HOWN.out.lt g hg).2)).alloc (.cells #[.slice ad3 xs.length c3, .int .i64 (-1)] 46))
         have HOW3a := Lib.hid (owns_of HOWN.out (fun g hg => hb3'.block g (HOWN.out.lt g hg).2))
         have HK3 := Lib.hid (HK2.out.trans (Keep.of_below hb3'))
         have HNW := Lib.hid (news_two w3 (.slice ad3 xs.length c3) (.int .i64 (-1)))
         have HN1 := Lib.hid (show ∀ u ∈ [Value.slice ad3 xs.length c3, Value.int .i64 (-1)], u.oneCell' = true from one_two ho3)
         clear ho3 hb3 hb3'))
    all_goals
      obtain ⟨hT6, hK6⟩ := Tb.append HT3.out HOW3a.out HCS.out HG5.out HO5.out HO3.out
      have HT6 := Lib.hid hT6
      have HK6 := Lib.hid (HK3.out.trans hK6)
      clear hT6 hK6 HT3 HK3 HOW3a HCS HG5 HO5 HO3 hc5 hf5 hc3a hf3a hc3 hf3 HOW3 HNW HN1
      generalize w5.setCell ⟨b, 0, none⟩ (.slice (some ⟨g5, 0, none⟩) (vs.length + 1) cap5) = w6 at *
      have HC6 := Lib.hid (HC2.out.snoc (nx' := upd nx vs.length (-1)) xs (fun j hj => upd_far _ _ _ _ (by omega)))
      have h6 : ((vs ++ [xs]).getD vs.length []).length ≤ 64 := by rw [getD_snoc_at]; exact hx
      go_wp2_with fail
      refine (chain_tb HT6.out vs.length (by omega) (by omega) (by omega) h6).mono ?_
      rintro e w7 ⟨rfl, hT7, hK7⟩
      have HT7 := Lib.hid hT7
      have HK7 := Lib.hid (HK6.out.trans hK7)
      clear hT7 hK7
      go_wp2_with fail
      go_ret3
      refine ⟨HK7.out, .inr ⟨HNO.out, rfl, ?_⟩⟩
      have el : (vs ++ [xs]).length = vs.length + 1 := by simp
      refine ⟨m, _, _, _, _, _, by rw [el]; exact HT7.out, by rw [el]; exact HC6.out.step (by omega), by rw [el]; omega, by rw [el]; omega, nodup_snoc HND.out HNO.out, fun j => ?_⟩
      rcases Nat.lt_or_ge j vs.length with hj | hj
      · rw [getD_snoc_lt vs xs j hj]; exact H64.out j
      · rcases Nat.eq_or_lt_of_le hj with rfl | hj
        · exact h6
        · rw [List.getD_eq_getElem?_getD, List.getElem?_eq_none (by rw [el]; omega)]; simp

theorem put_any {w : World} {B b : Nat} {vs : List (List Int)} {v : Value} {xs : List Int} (h : Tab w B b vs) (hv : R32 w v xs) (hvo : Vok w b B v) (hx : xs.length ≤ 64) (hl : vs.length ≤ 999) (hB : B ≤ w.heap.size) :
    Calls Tryd.prog 8 #[.pointer (some ⟨b, 0, none⟩), v] w (PutF B b vs xs w) := put_new h hv hvo hx hl hB
end Go.Proofs.YtoppjkdlloddmaaDoor
