/-
  The document's put: a text in its place, walked.
-/
import Derived.Test.YtjhicgllofjpoaaGreatDoorY4
import Derived.Test.YtjhicgllofjpoaaGreatDoorJD
import Derived.Sort.Walk0
import Derived.Maps.AppendAt
import Derived.Laws.AppendOwnNone
import Derived.Deep.AppendLies
namespace Go.Proofs.YtjhicgllofjpoaaGreatDoor
open Go.RowKit Go.Maps Go.Sort

/-- A slice read as texts; none is the nil slice. -/
def RL (w : World) (v : Value) (l : List (List UInt8)) : Prop := ∃ A cap, v = .slice A l.length cap ∧ RS w A l ∧ l.length ≤ cap ∧ (l = [] → A = none ∧ cap = 0)
theorem RL.below {w w' : World} {v : Value} {l : List (List UInt8)} (h : RL w v l) (hb : Below w.heap.size w w') : RL w' v l := by
  obtain ⟨A, cap, h1, h2, h3, h4⟩ := h
  exact ⟨A, cap, h1, h2.below hb, h3, h4⟩
theorem RL.nil (w : World) : RL w (.slice none 0 0) [] := ⟨none, 0, rfl, fun i hi => absurd hi (by simp), Nat.zero_le _, fun _ => ⟨rfl, rfl⟩⟩
theorem own_capY {w : World} {b n : Nat} {e : TypeId} {A : Option Addr} {m cap : Nat} {xs : List Value} (h : w.ownsRow b e 1 (.slice A m cap) n xs) : n ≤ cap := by
  rcases h.2 with ⟨h0, h1⟩ | ⟨g', cap', cur, hv, _, _, hn, _⟩
  · omega
  · cases hv; exact hn
theorem rl_row {w : World} {base n : Nat} {v : Value} {l : List (List UInt8)} {xs : List Value} (h : w.ownsRow base 9 1 v n xs) (hn : n = l.length) (hx : xs = l.map strV) (h0 : l ≠ []) : RL w v l := by
  subst hn hx
  have h' : w.ownsRow base 9 1 v l.length (l.map encStr) := h
  obtain ⟨A, cap, rfl, hr⟩ := rs_row h'
  exact ⟨A, cap, rfl, hr, own_capY h, fun e => absurd e h0⟩
def PutP (l : List (List UInt8)) (w : World) (e : Ending) (w' : World) : Prop := ∃ v, e = .returned v ∧ RL w' v l ∧ Below w.heap.size w w'
theorem putL_ne (l : List (List UInt8)) (s : List UInt8) : putL l s ≠ [] := by
  intro h
  have := (putL_mem l s s).2 (.inl rfl)
  rw [h] at this
  exact absurd this (by simp)
theorem infoS : (Tryz.prog.info? 9).map (fun i => (i.zero, i.size, i.bytes)) = some (some (.string ⟨#[]⟩), 1, 16) := by kernel_rfl
theorem one_str {l : List (List UInt8)} : ∀ u ∈ l.map strV, u.oneCell' = true := by
  intro u hu
  obtain ⟨x, _, rfl⟩ := List.mem_map.1 hu
  rfl
theorem rs_take {w : World} {g : Nat} {l : List (List UInt8)} (h : RS w (some ⟨g, 0, none⟩) l) (k : Nat) : ∀ (j : Nat) (u : Value), ((l.take k).map strV)[j]? = some u → w.cell? ((⟨g, 0, none⟩ : Addr).add j) = some u := by
  intro j u hu
  rw [List.getElem?_map] at hu
  obtain ⟨x, hx, rfl⟩ := Option.map_eq_some_iff.1 hu
  obtain ⟨hj, hx'⟩ := List.getElem?_eq_some_iff.1 hx
  have hj' : j < l.length := by rw [List.length_take] at hj; omega
  obtain ⟨g', e, _, hc⟩ := h j hj'
  injection e with e
  injection e with e
  subst e
  have e2 : (⟨g, 0, none⟩ : Addr).add j = ⟨g, j, none⟩ := by
    unfold Addr.add
    by_cases h0 : j = 0 <;> simp [h0]
  rw [e2, hc, ← hx', List.getElem_take]
theorem rs_drop {w : World} {g : Nat} {l : List (List UInt8)} (h : RS w (some ⟨g, 0, none⟩) l) (k : Nat) (ad : Addr) (ha : k < l.length → ad = (⟨g, k, none⟩ : Addr)) : ∀ (j : Nat) (u : Value), ((l.drop k).map strV)[j]? = some u → w.cell? (ad.add j) = some u := by
  intro j u hu
  rw [List.getElem?_map] at hu
  obtain ⟨x, hx, rfl⟩ := Option.map_eq_some_iff.1 hu
  obtain ⟨hj, hx'⟩ := List.getElem?_eq_some_iff.1 hx
  have hj' : k + j < l.length := by rw [List.length_drop] at hj; omega
  obtain rfl := ha (by omega)
  obtain ⟨g', e, _, hc⟩ := h (k + j) hj'
  injection e with e
  injection e with e
  subst e
  have e2 : (⟨g, k, none⟩ : Addr).add j = ⟨g, k + j, none⟩ := by
    unfold Addr.add
    by_cases h0 : j = 0 <;> simp [h0]
  rw [e2, hc, ← hx', List.getElem_drop]
/-- What the loop keeps. -/
def PtRel (l : List (List UInt8)) (s : List UInt8) (w : World) (i : Value) (wr : World) : Prop := ∃ k : Nat, i = .int .i64 (k : Int) ∧ k ≤ l.length ∧ (∀ j (h : j < l.length), j < k → l[j] < s) ∧ Below w.heap.size w wr
theorem ownQ_below {w w' : World} {b : Nat} {t : TypeId} {sz n : Nat} {v : Value} {cs : List Value} (h : w.ownsRow b t sz v n cs) (hb : Below w.heap.size w w') : w'.ownsRow b t sz v n cs := by
  refine ⟨h.1, ?_⟩
  rcases h.2 with h | ⟨g, cap, cur, h1, h2, h3, h4⟩
  · exact .inl h
  · exact .inr ⟨g, cap, cur, h1, h2, (hb.block g (blk_lt h3)).trans h3, h4⟩
theorem Bx.cell_get {w : World} {q : Nat} {t : TypeId} {cs : List Value} (h : Bx w q t cs) {j : Nat} {u : Value} (hj : cs[j]? = some u) : w.cell? ⟨q, j, none⟩ = some u := (h.cell j).trans hj
theorem own_add {g : Nat} : ∀ j, (⟨g, 0, none⟩ : Addr).add j = ⟨g, j, none⟩ := fun j => by
  unfold Addr.add
  by_cases h0 : j = 0 <;> simp [h0]
theorem owns_emptyY (w : World) : (w.alloc (.cells #[] 9)).ownsRow w.heap.size 9 1 (.slice (some ⟨w.heap.size, 0, none⟩) 0 0) 0 [] :=
  ⟨rfl, .inr ⟨w.heap.size, 0, #[], rfl, Nat.le_refl _, heap_new_at rfl _, Nat.le_refl _, by unfold maxLen; omega, rfl, rfl⟩⟩
set_option maxHeartbeats 4000000 in
set_option maxRecDepth 100000 in
theorem rfput_nil {s : ByteArray} (w : World) : Calls Tryz.prog 37 #[.slice none 0 0, .string s] w (PutP [s.data.toList] w) := by
  obtain ⟨i0, hi0, hz⟩ := Option.map_eq_some_iff.1 infoS
  simp only [Prod.mk.injEq] at hz
  obtain ⟨hz0, hz1, hz2⟩ := hz
  have HZ0 := Lib.hid hz0
  have HZ1 := Lib.hid hz1
  have HZ2 := Lib.hid hz2
  have HI := Lib.hid hi0
  clear hz0 hz1 hz2 hi0
  go_enter Tryz.func37, Tryz.ntmps37
  go_wp2
  go_loopw [5] (fun i wr => i = .int .i64 0 ∧ w = wr) (fun i _ => 0)
  case atStart => exact ⟨rfl, rfl⟩
  case round =>
    obtain ⟨rfl, rfl⟩ := hrel
    have HO0 := Lib.hid (owns_emptyY w)
    have hb2 : Below (w.alloc (.cells #[] 9)).heap.size (w.alloc (.cells #[] 9)) ((w.alloc (.cells #[] 9)).alloc (.cells #[.string s] 9)) := (Below.refl _ _).alloc (Nat.le_refl _) _
    have HO1 := Lib.hid (ownQ_below HO0.out hb2)
    have HB2 := Lib.hid (show Below w.heap.size w ((w.alloc (.cells #[] 9)).alloc (.cells #[.string s] 9)) from ((Below.refl _ _).alloc (Nat.le_refl _) _).alloc (by simp) _)
    clear hb2
    go_wp2_with (at_builtin; first
      | refine wpList_append_own_none rfl _ _ 42 rfl w.heap.size 9 i0 1 Tryz.underlying42 HI.out _ _ _ rfl HO0.out rfl ?_
      | refine wpList_append_lies _ rfl _ _ 42 rfl w.heap.size 9 i0 (.string ⟨#[]⟩) 1 16 Tryz.underlying42 HI.out HZ0.out HZ1.out HZ2.out rfl (by decide) _ _ _ rfl HO1.out ⟨w.heap.size + 1, 0, none⟩ 1 1 [.string s] rfl rfl ?c1 ?c2 (by omega) ?c3 ?c4 ?c5 (w.heap.size + 1 + 1) (by simp) ?_)
    case c1 => intro j u hj; rw [own_add, show w.heap.size + 1 = (w.alloc (.cells #[] 9)).heap.size by simp]; exact (Bx.new (w.alloc (.cells #[] 9)) 9 [.string s]).cell_get hj
    case c2 => intro u hu; simp only [List.mem_cons, List.not_mem_nil, or_false] at hu; subst hu; rfl
    case c3 => unfold maxLen; omega
    case c4 => omega
    case c5 => simp; omega
    intro g2 cap2 w3 hown3 hgrow3 hat3 hlt3
    have HO3 := Lib.hid hown3
    have HB3 := Lib.hid (HB2.out.grown hgrow3 (by simp; omega) (fun k hk => (HO1.out.lt k hk).1))
    clear hown3 hgrow3 hat3
    go_wp2_with (at_builtin; refine wpList_append_own_none rfl _ _ 42 rfl w.heap.size 9 i0 1 Tryz.underlying42 HI.out _ _ _ rfl HO3.out rfl ?_)
    go_ret
    exact ⟨_, rfl, rl_row HO3.out rfl rfl (by simp), HB3.out⟩
set_option maxHeartbeats 8000000 in
set_option maxRecDepth 100000 in
theorem rfput_some {l : List (List UInt8)} {g cap : Nat} {s : ByteArray} (w : World) (hA : RS w (some ⟨g, 0, none⟩) l) (hn : l.length ≤ 200000) (hc : l.length ≤ cap) (h0 : l ≠ []) : Calls Tryz.prog 37 #[.slice (some ⟨g, 0, none⟩) l.length cap, .string s] w (PutP (putL l s.data.toList) w) := by
  obtain ⟨i0, hi0, hz⟩ := Option.map_eq_some_iff.1 infoS
  simp only [Prod.mk.injEq] at hz
  obtain ⟨hz0, hz1, hz2⟩ := hz
  have HZ0 := Lib.hid hz0
  have HZ1 := Lib.hid hz1
  have HZ2 := Lib.hid hz2
  have HI := Lib.hid hi0
  have HA := Lib.hid hA
  have hpos : 0 < l.length := List.length_pos_iff.2 h0
  have HNE := Lib.hid h0
  obtain ⟨sl, hsl⟩ : ∃ sl, sl = s.data.toList := ⟨_, rfl⟩
  have HSL := Lib.hid hsl
  rw [← hsl]
  obtain ⟨n, hnn⟩ : ∃ n, n = l.length := ⟨_, rfl⟩
  have HN := Lib.hid hnn
  rw [← hnn] at hn hc hpos ⊢
  have hcp : ¬ cap = 0 := by omega
  clear hz0 hz1 hz2 hi0 hA h0 hsl hnn
  go_enter Tryz.func37, Tryz.ntmps37
  go_wp2
  go_loopw [5] (fun i wr => PtRel l sl w i wr) (fun i _ => n - (intOf i).toNat)
  case atStart => exact ⟨0, rfl, Nat.zero_le _, fun j _ hj => absurd hj (by omega), Below.refl _ _⟩
  case round =>
    obtain ⟨k, rfl, hk, hal, hb⟩ := hrel
    have hk : k ≤ n := by rw [HN.out]; exact hk
    have HAL := Lib.hid hal
    have HB := Lib.hid hb
    have HAr := Lib.hid (HA.out.below hb)
    clear hal hb
    by_cases hlt : k < n
    · have c1 : decide ((k : Int) < (n : Int)) = true := by simp; omega
      have k1 : k < l.length := by rw [← HN.out]; exact hlt
      obtain ⟨g', e, hg, a0⟩ := HAr.out k k1
      injection e with e
      injection e with e
      subst e
      obtain ⟨o, hoo⟩ : ∃ o, o = (⟨l[k].toArray⟩ : ByteArray) := ⟨_, rfl⟩
      replace a0 : wr.cell? ⟨g, k, none⟩ = some (.string o) := by rw [hoo]; exact a0
      have q1 : Op.bytesLess o.toList s.toList = decide (l[k] < sl) := by rw [bytesLess_eq, hoo, HSL.out, ByteArray.toList_eq, ByteArray.toList_eq]
      have q2 : (o.toList == s.toList) = decide (l[k] = sl) := by
        rw [hoo, HSL.out, ByteArray.toList_eq, ByteArray.toList_eq]
        by_cases h : l[k] = s.data.toList
        · rw [decide_eq_true h, beq_iff_eq]; exact h
        · rw [decide_eq_false h, beq_eq_false_iff_ne]; exact h
      clear hoo
      by_cases hl : l[k] < sl
      · rw [decide_eq_true hl] at q1
        have HM := Lib.hid (show ∀ j (h : j < l.length), j < k + 1 → l[j] < sl from fun j h hj => by
          rcases Nat.lt_or_eq_of_le (Nat.lt_succ_iff.1 hj) with h1 | h1
          · exact HAL.out j h h1
          · subst h1; exact hl)
        clear hl q2
        go_wp2
        go_roundw
        case rel => exact ⟨k + 1, by go_num, by have := HN.out; omega, HM.out, HB.out⟩
        case measure => simp [intOf]; omega
      · rw [decide_eq_false hl] at q1
        have HPL := Lib.hid (putL_at l sl k (Nat.le_of_lt k1) (fun j h hj => HAL.out j h hj) (fun _ => hl))
        clear hl
        by_cases he : l[k] = sl
        · rw [decide_eq_true he] at q2
          have HR := Lib.hid (show putL l sl = l by rw [HPL.out, if_pos ⟨k1, he⟩])
          clear he
          go_wp2
          go_ret
          rw [HR.out]
          exact ⟨.slice (some ⟨g, 0, none⟩) n cap, rfl, ⟨_, cap, by rw [HN.out], HAr.out, by rw [← HN.out]; exact hc, fun e => absurd e HNE.out⟩, HB.out⟩
        · rw [decide_eq_false he] at q2
          have HR := Lib.hid (show putL l sl = l.take k ++ [sl] ++ l.drop k by rw [HPL.out, if_neg (fun ⟨_, h⟩ => he h)])
          clear he
          have hck : ¬ cap = k := by omega
          have HO0 := Lib.hid (owns_emptyY wr)
          have HB0 := Lib.hid (show Below wr.heap.size wr (wr.alloc (.cells #[] 9)) from (Below.refl _ _).alloc (Nat.le_refl _) _)
          have HA0 := Lib.hid (HAr.out.below HB0.out)
          go_wp2_with (at_builtin; refine wpList_append_own_at _ rfl _ _ 42 rfl wr.heap.size 9 i0 (.string ⟨#[]⟩) 1 16 Tryz.underlying42 HI.out HZ0.out HZ1.out HZ2.out rfl (by decide) _ _ _ rfl HO0.out ⟨g, 0, none⟩ k cap ((l.take k).map strV) rfl ?a1 (rs_take HA0.out k) one_str ?a3 ?a4 ?a5 ?_)
          try case a1 => have := HN.out; rw [List.length_map, List.length_take]; omega
          try case a3 => unfold maxLen; omega
          try case a4 => omega
          try case a5 => simp
          intro v1 w4 hown1 hgrow1 hiff1 hat1
          have HO1 := Lib.hid hown1
          have HB1 := Lib.hid (HB0.out.grown hgrow1 (by simp) (fun j hj => (HO0.out.lt j hj).1))
          clear hown1 hgrow1 hiff1 hat1
          have hb2 : Below w4.heap.size w4 (w4.alloc (.cells #[.string s] 9)) := (Below.refl _ _).alloc (Nat.le_refl _) _
          have HO2 := Lib.hid (ownQ_below HO1.out hb2)
          have HB2 := Lib.hid (HB1.out.trans (hb2.mono HB1.out.size))
          have hz1 := HB1.out.size
          clear hb2
          go_wp2_with (at_builtin; refine wpList_append_lies _ rfl _ _ 42 rfl wr.heap.size 9 i0 (.string ⟨#[]⟩) 1 16 Tryz.underlying42 HI.out HZ0.out HZ1.out HZ2.out rfl (by decide) _ _ _ rfl HO2.out ⟨w4.heap.size, 0, none⟩ 1 1 [.string s] rfl rfl ?b1 ?b2 (by omega) ?b3 ?b4 ?b5 (w4.heap.size + 1) (by simp) ?_)
          try case b1 => intro j u hj; rw [own_add]; exact (Bx.new w4 9 [.string s]).cell_get hj
          try case b2 => intro u hu; simp only [List.mem_cons, List.not_mem_nil, or_false] at hu; subst hu; rfl
          try case b3 => unfold maxLen; omega
          try case b4 => omega
          try case b5 => simp; omega
          intro g3 cap3 w5 hown3 hgrow3 hat3 hlt3
          have HO3 := Lib.hid hown3
          have HB3 := Lib.hid (HB2.out.grown hgrow3 (by simp; omega) (fun j hj => (HO2.out.lt j hj).1))
          have HA3 := Lib.hid (HAr.out.below HB3.out)
          have hz3 := HB3.out.size
          clear hown3 hgrow3 hat3
          go_wp2_with (at_builtin; refine wpList_append_own_at _ rfl _ _ 42 rfl wr.heap.size 9 i0 (.string ⟨#[]⟩) 1 16 Tryz.underlying42 HI.out HZ0.out HZ1.out HZ2.out rfl (by decide) _ _ _ rfl HO3.out ⟨g, k, none⟩ (n - k) (cap - k) ((l.drop k).map strV) rfl ?e1 (rs_drop HA3.out k _ (fun _ => rfl)) one_str ?e3 ?e4 ?e5 ?_)
          try case e1 => have := HN.out; rw [List.length_map, List.length_drop]; omega
          try case e3 => unfold maxLen; omega
          try case e4 => omega
          try case e5 => omega
          intro v9 w6 hown6 hgrow6 hiff6 hat6
          have HO6 := Lib.hid hown6
          have HB6 := Lib.hid (HB3.out.grown hgrow6 (by omega) (fun j hj => (HO3.out.lt j hj).1))
          clear hown6 hgrow6 hiff6 hat6
          go_wp2
          go_ret
          refine ⟨v9, rfl, rl_row HO6.out ?_ ?_ (putL_ne l sl), HB.out.trans (HB6.out.mono HB.out.size)⟩
          · have := HN.out
            rw [HR.out]
            simp only [List.length_append, List.length_take, List.length_drop, List.length_cons, List.length_nil]
            omega
          · rw [HR.out, HSL.out]
            simp [strV]
    · have c1 : decide ((k : Int) < (n : Int)) = false := by simp; omega
      have hkn : k = n := by omega
      have HR := Lib.hid (show putL l sl = l.take k ++ [sl] ++ l.drop k by
        rw [putL_at l sl k (by rw [← HN.out]; exact hk) (fun j h hj => HAL.out j h hj) (fun h => absurd h (by rw [← HN.out]; omega)), if_neg (fun ⟨h, _⟩ => absurd h (by rw [← HN.out]; omega))])
      subst hkn
      by_cases hck : k = cap
      · subst hck
        have HO0 := Lib.hid (owns_emptyY wr)
        have HB0 := Lib.hid (show Below wr.heap.size wr (wr.alloc (.cells #[] 9)) from (Below.refl _ _).alloc (Nat.le_refl _) _)
        have HA0 := Lib.hid (HAr.out.below HB0.out)
        go_wp2_with (at_builtin; refine wpList_append_own_at _ rfl _ _ 42 rfl wr.heap.size 9 i0 (.string ⟨#[]⟩) 1 16 Tryz.underlying42 HI.out HZ0.out HZ1.out HZ2.out rfl (by decide) _ _ _ rfl HO0.out ⟨g, 0, none⟩ k k ((l.take k).map strV) rfl ?a1 (rs_take HA0.out k) one_str ?a3 ?a4 ?a5 ?_)
        try case a1 => have := HN.out; rw [List.length_map, List.length_take]; omega
        try case a3 => unfold maxLen; omega
        try case a4 => omega
        try case a5 => simp
        intro v1 w4 hown1 hgrow1 hiff1 hat1
        have HO1 := Lib.hid hown1
        have HB1 := Lib.hid (HB0.out.grown hgrow1 (by simp) (fun j hj => (HO0.out.lt j hj).1))
        clear hown1 hgrow1 hiff1 hat1
        have hb2 : Below w4.heap.size w4 (w4.alloc (.cells #[.string s] 9)) := (Below.refl _ _).alloc (Nat.le_refl _) _
        have HO2 := Lib.hid (ownQ_below HO1.out hb2)
        have HB2 := Lib.hid (HB1.out.trans (hb2.mono HB1.out.size))
        have hz1 := HB1.out.size
        clear hb2
        go_wp2_with (at_builtin; refine wpList_append_lies _ rfl _ _ 42 rfl wr.heap.size 9 i0 (.string ⟨#[]⟩) 1 16 Tryz.underlying42 HI.out HZ0.out HZ1.out HZ2.out rfl (by decide) _ _ _ rfl HO2.out ⟨w4.heap.size, 0, none⟩ 1 1 [.string s] rfl rfl ?b1 ?b2 (by omega) ?b3 ?b4 ?b5 (w4.heap.size + 1) (by simp) ?_)
        try case b1 => intro j u hj; rw [own_add]; exact (Bx.new w4 9 [.string s]).cell_get hj
        try case b2 => intro u hu; simp only [List.mem_cons, List.not_mem_nil, or_false] at hu; subst hu; rfl
        try case b3 => unfold maxLen; omega
        try case b4 => omega
        try case b5 => simp; omega
        intro g3 cap3 w5 hown3 hgrow3 hat3 hlt3
        have HO3 := Lib.hid hown3
        have HB3 := Lib.hid (HB2.out.grown hgrow3 (by simp; omega) (fun j hj => (HO2.out.lt j hj).1))
        have HA3 := Lib.hid (HAr.out.below HB3.out)
        have hz3 := HB3.out.size
        clear hown3 hgrow3 hat3
        go_wp2_with (at_builtin; refine wpList_append_own_at _ rfl _ _ 42 rfl wr.heap.size 9 i0 (.string ⟨#[]⟩) 1 16 Tryz.underlying42 HI.out HZ0.out HZ1.out HZ2.out rfl (by decide) _ _ _ rfl HO3.out ⟨g, 0, none⟩ 0 0 ((l.drop k).map strV) rfl ?e1 (rs_drop HA3.out k _ (fun h => absurd h (by have := HN.out; omega))) one_str ?e3 ?e4 ?e5 ?_)
        try case e1 => have := HN.out; rw [List.length_map, List.length_drop]; omega
        try case e3 => unfold maxLen; omega
        try case e4 => omega
        try case e5 => omega
        intro v9 w6 hown6 hgrow6 hiff6 hat6
        have HO6 := Lib.hid hown6
        have HB6 := Lib.hid (HB3.out.grown hgrow6 (by omega) (fun j hj => (HO3.out.lt j hj).1))
        clear hown6 hgrow6 hiff6 hat6
        go_wp2
        go_ret
        refine ⟨v9, rfl, rl_row HO6.out ?_ ?_ (putL_ne l sl), HB.out.trans (HB6.out.mono HB.out.size)⟩
        · have := HN.out
          rw [HR.out]
          simp only [List.length_append, List.length_take, List.length_drop, List.length_cons, List.length_nil]
          omega
        · rw [HR.out, HSL.out]
          simp [strV]
      · skip
        have hck2 : ¬ cap = k := fun h => hck h.symm
        have HO0 := Lib.hid (owns_emptyY wr)
        have HB0 := Lib.hid (show Below wr.heap.size wr (wr.alloc (.cells #[] 9)) from (Below.refl _ _).alloc (Nat.le_refl _) _)
        have HA0 := Lib.hid (HAr.out.below HB0.out)
        go_wp2_with (at_builtin; refine wpList_append_own_at _ rfl _ _ 42 rfl wr.heap.size 9 i0 (.string ⟨#[]⟩) 1 16 Tryz.underlying42 HI.out HZ0.out HZ1.out HZ2.out rfl (by decide) _ _ _ rfl HO0.out ⟨g, 0, none⟩ k cap ((l.take k).map strV) rfl ?a1 (rs_take HA0.out k) one_str ?a3 ?a4 ?a5 ?_)
        try case a1 => have := HN.out; rw [List.length_map, List.length_take]; omega
        try case a3 => unfold maxLen; omega
        try case a4 => omega
        try case a5 => simp
        intro v1 w4 hown1 hgrow1 hiff1 hat1
        have HO1 := Lib.hid hown1
        have HB1 := Lib.hid (HB0.out.grown hgrow1 (by simp) (fun j hj => (HO0.out.lt j hj).1))
        clear hown1 hgrow1 hiff1 hat1
        have hb2 : Below w4.heap.size w4 (w4.alloc (.cells #[.string s] 9)) := (Below.refl _ _).alloc (Nat.le_refl _) _
        have HO2 := Lib.hid (ownQ_below HO1.out hb2)
        have HB2 := Lib.hid (HB1.out.trans (hb2.mono HB1.out.size))
        have hz1 := HB1.out.size
        clear hb2
        go_wp2_with (at_builtin; refine wpList_append_lies _ rfl _ _ 42 rfl wr.heap.size 9 i0 (.string ⟨#[]⟩) 1 16 Tryz.underlying42 HI.out HZ0.out HZ1.out HZ2.out rfl (by decide) _ _ _ rfl HO2.out ⟨w4.heap.size, 0, none⟩ 1 1 [.string s] rfl rfl ?b1 ?b2 (by omega) ?b3 ?b4 ?b5 (w4.heap.size + 1) (by simp) ?_)
        try case b1 => intro j u hj; rw [own_add]; exact (Bx.new w4 9 [.string s]).cell_get hj
        try case b2 => intro u hu; simp only [List.mem_cons, List.not_mem_nil, or_false] at hu; subst hu; rfl
        try case b3 => unfold maxLen; omega
        try case b4 => omega
        try case b5 => simp; omega
        intro g3 cap3 w5 hown3 hgrow3 hat3 hlt3
        have HO3 := Lib.hid hown3
        have HB3 := Lib.hid (HB2.out.grown hgrow3 (by simp; omega) (fun j hj => (HO2.out.lt j hj).1))
        have HA3 := Lib.hid (HAr.out.below HB3.out)
        have hz3 := HB3.out.size
        clear hown3 hgrow3 hat3
        go_wp2_with (at_builtin; refine wpList_append_own_at _ rfl _ _ 42 rfl wr.heap.size 9 i0 (.string ⟨#[]⟩) 1 16 Tryz.underlying42 HI.out HZ0.out HZ1.out HZ2.out rfl (by decide) _ _ _ rfl HO3.out ⟨g, k, none⟩ 0 (cap - k) ((l.drop k).map strV) rfl ?e1 (rs_drop HA3.out k _ (fun _ => rfl)) one_str ?e3 ?e4 ?e5 ?_)
        try case e1 => have := HN.out; rw [List.length_map, List.length_drop]; omega
        try case e3 => unfold maxLen; omega
        try case e4 => omega
        try case e5 => omega
        intro v9 w6 hown6 hgrow6 hiff6 hat6
        have HO6 := Lib.hid hown6
        have HB6 := Lib.hid (HB3.out.grown hgrow6 (by omega) (fun j hj => (HO3.out.lt j hj).1))
        clear hown6 hgrow6 hiff6 hat6
        go_wp2
        go_ret
        refine ⟨v9, rfl, rl_row HO6.out ?_ ?_ (putL_ne l sl), HB.out.trans (HB6.out.mono HB.out.size)⟩
        · have := HN.out
          rw [HR.out]
          simp only [List.length_append, List.length_take, List.length_drop, List.length_cons, List.length_nil]
          omega
        · rw [HR.out, HSL.out]
          simp [strV]
theorem rfput_any {l : List (List UInt8)} {v : Value} {s : ByteArray} (w : World) (h : RL w v l) (hn : l.length ≤ 200000) : Calls Tryz.prog 37 #[v, .string s] w (PutP (putL l s.data.toList) w) := by
  obtain ⟨A, cap, rfl, hA, hc, h0⟩ := h
  by_cases hl : l = []
  · obtain ⟨rfl, rfl⟩ := h0 hl
    subst hl
    exact rfput_nil w
  · obtain ⟨g, rfl, _⟩ := hA 0 (List.length_pos_iff.2 hl)
    exact rfput_some w hA hn hc hl
end Go.Proofs.YtjhicgllofjpoaaGreatDoor
