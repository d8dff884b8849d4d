/-
  Processes alike: slices' Equal, EqualFunc, choicesAlike, Alike, walked.
-/
import Derived.Test.YtkgjpimapfmeoaaDoorMh
import Derived.Test.YtkgjpimapfmeoaaDoorMn
import Derived.Deep.RegionHeld3
namespace Go.Proofs.YtkgjpimapfmeoaaDoor
open Go.RowKit

theorem equali_any {A B : Option Addr} {l1 l2 : List Int} {c1 c2 : Nat} (w : World) (h1 : ISl w A l1) (h2 : ISl w B l2) (hl1 : l1.length ≤ 1000000) (hl2 : l2.length ≤ 1000000) : Calls Tryd.prog 30 #[.slice A l1.length c1, .slice B l2.length c2] w (BoolP (decide (l1 = l2)) w) := by
  by_cases hlen : l1.length = l2.length
  · cases l1 with
    | nil =>
      have : l2 = [] := List.eq_nil_of_length_eq_zero (by simpa using hlen.symm)
      subst this
      refine (Tryd.slices_Equal_int_empty A B c1 0 c2 w (by omega)).mono ?_
      rintro e w' ⟨rfl, rfl⟩
      exact ⟨by simp, Below.refl _ _⟩
    | cons x r =>
      obtain ⟨g, o, rfl, _⟩ := h1 0 (by simp)
      obtain ⟨g2, o2, rfl, _⟩ := h2 0 (by rw [← hlen]; simp)
      refine (Tryd.slices_Equal_int g o _ c1 g2 o2 _ c2 (x :: r) l2 w (Nat.le_refl _) (Nat.le_refl _) (by omega) (by omega) ?_ ?_).mono ?_
      · intro j hj
        obtain ⟨g', o', e, hc⟩ := h1 j hj
        injection e with e
        injection e with e1 e2
        subst e1 e2
        rw [getD_of hj]
        exact hc
      · intro j hj
        obtain ⟨g', o', e, hc⟩ := h2 j hj
        injection e with e
        injection e with e1 e2
        subst e1 e2
        rw [getD_of hj]
        exact hc
      · rintro e w' ⟨rfl, q, rfl⟩
        refine ⟨ret_bool ?_, below_drewN (Below.refl _ _) q⟩
        rw [List.take_of_length_le (Nat.le_refl _), List.take_of_length_le (Nat.le_refl _)]
        exact Bool.eq_iff_iff.2 (by simp)
  · have HE := Lib.hid (show false = decide (l1 = l2) from (decide_eq_false fun e => hlen (by rw [e])).symm)
    generalize l1.length = n1 at *
    generalize l2.length = n2 at *
    have d1 : ((n1 : Int) == (n2 : Int)) = false := by rw [beq_eq_false_iff_ne]; omega
    have d2 : ¬ (n1 : Int) = (n2 : Int) := by omega
    go_enter Tryd.func30, Tryd.ntmps30
    go_wp2
    go_ret
    exact ⟨ret_bool HE.out, Below.refl _ _⟩
theorem equals_any {A B : Option Addr} {l1 l2 : List ByteArray} {c1 c2 : Nat} (w : World) (h1 : SSl w A l1) (h2 : SSl w B l2) (hl1 : l1.length ≤ 1000000) (hl2 : l2.length ≤ 1000000) : Calls Tryd.prog 28 #[.slice A l1.length c1, .slice B l2.length c2] w (BoolP (decide (l1 = l2)) w) := by
  by_cases hlen : l1.length = l2.length
  · cases l1 with
    | nil =>
      have : l2 = [] := List.eq_nil_of_length_eq_zero (by simpa using hlen.symm)
      subst this
      refine (Tryd.slices_Equal_string_empty A B c1 0 c2 w (by omega)).mono ?_
      rintro e w' ⟨rfl, rfl⟩
      exact ⟨by simp, Below.refl _ _⟩
    | cons x r =>
      obtain ⟨g, o, rfl, _⟩ := h1 0 (by simp)
      obtain ⟨g2, o2, rfl, _⟩ := h2 0 (by rw [← hlen]; simp)
      refine (Tryd.slices_Equal_string g o _ c1 g2 o2 _ c2 (x :: r) l2 w (Nat.le_refl _) (Nat.le_refl _) (by omega) (by omega) ?_ ?_).mono ?_
      · intro j hj
        obtain ⟨g', o', e, hc⟩ := h1 j hj
        injection e with e
        injection e with e1 e2
        subst e1 e2
        rw [getD_of hj]
        exact hc
      · intro j hj
        obtain ⟨g', o', e, hc⟩ := h2 j hj
        injection e with e
        injection e with e1 e2
        subst e1 e2
        rw [getD_of hj]
        exact hc
      · rintro e w' ⟨rfl, q, rfl⟩
        refine ⟨ret_bool ?_, below_drewN (Below.refl _ _) q⟩
        rw [List.take_of_length_le (Nat.le_refl _), List.take_of_length_le (Nat.le_refl _)]
  · have HE := Lib.hid (show false = decide (l1 = l2) from (decide_eq_false fun e => hlen (by rw [e])).symm)
    generalize l1.length = n1 at *
    generalize l2.length = n2 at *
    have d1 : ((n1 : Int) == (n2 : Int)) = false := by rw [beq_eq_false_iff_ne]; omega
    have d2 : ¬ (n1 : Int) = (n2 : Int) := by omega
    go_enter Tryd.func28, Tryd.ntmps28
    go_wp2
    go_ret
    exact ⟨ret_bool HE.out, Below.refl _ _⟩
section
variable {α β : Type} {K : α → β} {l1 l2 : List α}
theorem eqk_yes (hl : l1.length = l2.length) (h : ∀ i (h1 : i < l1.length) (h2 : i < l2.length), K l1[i] = K l2[i]) : l1.map K = l2.map K := by
  apply List.ext_getElem (by simp [hl])
  intro i h1 h2
  rw [List.getElem_map, List.getElem_map]
  exact h i _ _
theorem eqk_no (h : l1.map K = l2.map K) (i : Nat) (h1 : i < l1.length) (h2 : i < l2.length) : K l1[i] = K l2[i] := by
  have e := congrArg (fun l : List β => l[i]?) h
  simpa [h1, h2] using e
theorem eqk_len (h : l1.map K = l2.map K) : l1.length = l2.length := by simpa using congrArg List.length h
def EfRel (K : α → β) (l1 l2 : List α) (n : Nat) (w : World) (i : Value) (wr : World) : Prop := ∃ k : Nat, i = .int .i64 (k : Int) ∧ k ≤ n ∧ (∀ i (h1 : i < l1.length) (h2 : i < l2.length), i < k → K l1[i] = K l2[i]) ∧ Below w.heap.size w wr
theorem efStart (K : α → β) (l1 l2 : List α) (n : Nat) (w : World) : EfRel K l1 l2 n w (.int .i64 0) w := ⟨0, rfl, Nat.zero_le _, fun _ _ _ h => absurd h (by omega), Below.refl _ _⟩
end
def key (c : ChO) : ByteArray × List Int := (c.act, srt c.mv)
def keys (l : List ChO) : List (ByteArray × List Int) := l.map key
open Classical in
set_option maxHeartbeats 8000000 in
set_option maxRecDepth 100000 in
theorem eqfh_any {A B : Option Addr} {l1 l2 : List (List Int)} {c1 c2 : Nat} (w : World) (h1 : HSl w A l1) (h2 : HSl w B l2) (hl1 : l1.length ≤ 1000000) (hs1 : ∀ x ∈ l1, x.length ≤ 1000000) (hs2 : ∀ x ∈ l2, x.length ≤ 1000000) : Calls Tryd.prog 29 #[.slice A l1.length c1, .slice B l2.length c2, .func (.func 30) #[] #[]] w (BoolP (decide (l1.map id = l2.map id)) w) := by
  have H1 := Lib.hid h1
  have H2 := Lib.hid h2
  have HS1 := Lib.hid hs1
  have HS2 := Lib.hid hs2
  clear hs1 hs2
  clear h1 h2
  by_cases hlen : l1.length = l2.length
  · obtain ⟨n, hn⟩ : ∃ n, n = l1.length := ⟨_, rfl⟩
    have HN1 := Lib.hid hn
    have HN2 := Lib.hid (hn.trans hlen)
    have HLE := Lib.hid hlen
    rw [← hlen, ← hn]
    rw [← hn] at hl1
    clear hn hlen
    go_enter Tryd.func29, Tryd.ntmps29
    go_wp2
    go_loopw [17] (fun i wr => EfRel id l1 l2 n w i wr) (fun i _ => n - (intOf i).toNat)
    case atStart => exact efStart _ _ _ _ _
    case round =>
      obtain ⟨k, rfl, hk, hp, hb⟩ := hrel
      have HPP := Lib.hid hp
      have HB := Lib.hid hb
      clear hp
      by_cases hkn : k < n
      · have e1 : decide (k < n) = true := by simp; omega
        have k1 : k < l1.length := by rw [← HN1.out]; exact hkn
        have k2 : k < l2.length := by rw [← HN2.out]; exact hkn
        obtain ⟨g1, o1, B1, cap1, rfl, x1, -, y1⟩ := H1.out k k1
        obtain ⟨g2, o2, B2, cap2, rfl, x2, -, y2⟩ := H2.out k k2
        have Y1 := Lib.hid y1
        have Y2 := Lib.hid y2
        have HZ1 := Lib.hid H1
        have HZ2 := Lib.hid H2
        have HBA := Lib.hid hb
        replace x1 := cell_blw hb x1
        replace x2 := cell_blw hb x2
        clear H1 H2 y1 y2 hb
        go_wp2_with fail
        with_reducible refine (equali_any _ (Y1.out.below HBA.out) (Y2.out.below HBA.out) (HS1.out _ (List.getElem_mem k1)) (HS2.out _ (List.getElem_mem k2))).mono ?_
        rintro e w1 ⟨rfl, hb1⟩
        by_cases he : id l1[k] = id l2[k]
        · have HD := Lib.hid (show decide (id l1[k] = id l2[k]) = true from decide_eq_true he)
          have HQ := Lib.hid (show EfRel id l1 l2 n w (.int .i64 ((k + 1 : Nat) : Int)) w1 from ⟨k + 1, rfl, hkn, fun i h1 h2 hi => by
            by_cases hik : i < k
            · exact HPP.out i h1 h2 hik
            · have : i = k := by omega
              subst this
              exact he, below_t HBA.out hb1⟩)
          clear he
          replace HD := HD.out
          dsimp only [id] at HD
          rw [HD]
          clear HD
          go_wp2
          go_roundw
          case rel => exact HQ.out
          case measure => simp [intOf]; omega
        · have HD := Lib.hid (show decide (id l1[k] = id l2[k]) = false from decide_eq_false he)
          have HQ := Lib.hid (show false = decide (l1.map id = l2.map id) from (decide_eq_false fun h => he (eqk_no h k k1 k2)).symm)
          have HBB := Lib.hid (below_t HBA.out hb1)
          clear he
          replace HD := HD.out
          dsimp only [id] at HD
          rw [HD]
          clear HD
          go_wp2
          go_ret
          exact ⟨ret_bool HQ.out, HBB.out⟩
      · have e1 : decide (k < n) = false := by simp; omega
        have HQ := Lib.hid (show true = decide (l1.map id = l2.map id) from (decide_eq_true (eqk_yes HLE.out fun i h1 h2 => HPP.out i h1 h2 (by have := HN1.out; omega))).symm)
        go_wp2
        go_ret
        exact ⟨ret_bool HQ.out, HB.out⟩
  · have HE := Lib.hid (show false = decide (l1.map id = l2.map id) from (decide_eq_false fun e => hlen (eqk_len e)).symm)
    clear H1 H2
    generalize l1.length = n1 at *
    generalize l2.length = n2 at *
    have d1 : ((n1 : Int) == (n2 : Int)) = false := by rw [beq_eq_false_iff_ne]; omega
    have d2 : ¬ (n1 : Int) = (n2 : Int) := by omega
    go_enter Tryd.func29, Tryd.ntmps29
    go_wp2
    go_ret
    exact ⟨ret_bool HE.out, Below.refl _ _⟩
theorem tl_size (a : ByteArray) : a.size = a.data.toList.length := by rw [Array.length_toList]; rfl
theorem tl_loop (a : ByteArray) : ∀ (n i : Nat) (r : List UInt8), a.size - i = n → ByteArray.toList.loop a i r = r.reverse ++ a.data.toList.drop i
  | 0, i, r, h => by
    rw [ByteArray.toList.loop, if_neg (by omega), List.drop_of_length_le (by have := tl_size a; omega), List.append_nil]
  | n + 1, i, r, h => by
    have hi : i < a.data.toList.length := by
      have := tl_size a
      omega
    rw [ByteArray.toList.loop, if_pos (by omega), tl_loop a n (i + 1) _ (by omega), List.reverse_cons, List.append_assoc, List.drop_eq_getElem_cons hi]
    congr 1
    show [a.get! i] ++ _ = _
    have : a.get! i = a.data.toList[i] := by
      have h2 : i < a.data.size := by simpa using hi
      show a.data[i]! = _
      rw [getElem!_pos a.data i h2]; simp
    rw [this]; rfl
theorem tl_data (a : ByteArray) : a.toList = a.data.toList := by
  have := tl_loop a a.size 0 [] (by omega)
  simpa [ByteArray.toList] using this
theorem tl_inj {a b : ByteArray} (h : a.toList = b.toList) : a = b := by
  rw [tl_data, tl_data] at h
  cases a; cases b
  simpa using h
/-- What the closure of choicesAlike knows of memory. -/
structure CcM (a b : ByteArray) (A : Option Addr) (l1 : List MvO) (c1 : Nat) (B : Option Addr) (l2 : List MvO) (c2 : Nat) (w0 : World) (L : List (Option Addr × List Int)) (w : World) : Prop where
  b2 : Bx w w0.heap.size 49 [.string a, .slice A l1.length c1]
  b3 : Bx w (w0.heap.size + 1) 49 [.string b, .slice B l2.length c2]
  m1 : MSl w A l1
  m2 : MSl w B l2
  il : ∀ y ∈ L, ISl w y.1 y.2
  b : Below w0.heap.size w0 w
section
variable {a b : ByteArray} {A B : Option Addr} {l1 l2 : List MvO} {c1 c2 : Nat} {w0 w w' : World} {L : List (Option Addr × List Int)}
theorem CcM.below (h : CcM a b A l1 c1 B l2 c2 w0 L w) (hb : Below w.heap.size w w') : CcM a b A l1 c1 B l2 c2 w0 L w' := ⟨h.b2.below hb, h.b3.below hb, h.m1.below hb, h.m2.below hb, fun y hy => (h.il y hy).below hb, below_t h.b hb⟩
theorem CcM.drew (h : CcM a b A l1 c1 B l2 c2 w0 L w) : CcM a b A l1 c1 B l2 c2 w0 L w.drew := h.below ((Below.refl _ _).drew)
theorem CcM.more (h : CcM a b A l1 c1 B l2 c2 w0 L w) {C : Option Addr} {l : List Int} (hl : ISl w C l) : CcM a b A l1 c1 B l2 c2 w0 ((C, l) :: L) w := ⟨h.b2, h.b3, h.m1, h.m2, fun y hy => by
    rcases List.mem_cons.1 hy with rfl | hy
    · exact hl
    · exact h.il y hy, h.b⟩
theorem CcM.tg1 (h : CcM a b A l1 c1 B l2 c2 w0 L w) (hs : l1.length ≤ 1000000) : Calls Tryd.prog 27 #[.agg #[.string a, .slice A l1.length c1]] w fun e w' => ∃ C, e = .returned (.slice C l1.length l1.length) ∧ CcM a b A l1 c1 B l2 c2 w0 ((C, srt l1) :: L) w' :=
  (targets_any w h.m1 hs).mono fun _ _ ⟨g, h1, _, _, h2, h3⟩ => ⟨some ⟨g, 0, none⟩, h1, (h.below h3).more (holds_isl h2)⟩
theorem CcM.tg2 (h : CcM a b A l1 c1 B l2 c2 w0 L w) (hs : l2.length ≤ 1000000) : Calls Tryd.prog 27 #[.agg #[.string b, .slice B l2.length c2]] w fun e w' => ∃ C, e = .returned (.slice C l2.length l2.length) ∧ CcM a b A l1 c1 B l2 c2 w0 ((C, srt l2) :: L) w' :=
  (targets_any w h.m2 hs).mono fun _ _ ⟨g, h1, _, _, h2, h3⟩ => ⟨some ⟨g, 0, none⟩, h1, (h.below h3).more (holds_isl h2)⟩
theorem CcM.eq (h : CcM a b A l1 c1 B l2 c2 w0 L w) {C D : Option Addr} (hC : (C, srt l1) ∈ L) (hD : (D, srt l2) ∈ L) (h1 : l1.length ≤ 1000000) (h2 : l2.length ≤ 1000000) : Calls Tryd.prog 30 #[.slice C l1.length l1.length, .slice D l2.length l2.length] w fun e w' => e = .returned (.bool (decide (srt l1 = srt l2))) ∧ CcM a b A l1 c1 B l2 c2 w0 L w' := by
  have hq := equali_any (c1 := l1.length) (c2 := l2.length) w (h.il _ hC) (h.il _ hD) (by rw [srt_len]; exact h1) (by rw [srt_len]; exact h2)
  rw [srt_len, srt_len] at hq
  exact hq.mono fun _ _ ⟨h1, h2⟩ => ⟨h1, h.below h2⟩
end
open Classical in
set_option maxHeartbeats 8000000 in
set_option maxRecDepth 100000 in
theorem chclo_any {a b : ByteArray} {A B : Option Addr} {l1 l2 : List MvO} {c1 c2 : Nat} (w : World) (h1 : MSl w A l1) (h2 : MSl w B l2) (hl1 : l1.length ≤ 1000000) (hl2 : l2.length ≤ 1000000) : Calls Tryd.prog 46 #[.agg #[.string a, .slice A l1.length c1], .agg #[.string b, .slice B l2.length c2]] w (BoolP (decide (key ⟨a, l1⟩ = key ⟨b, l2⟩)) w) := by
  have HLK := Lib.hid (show CcM a b A l1 c1 B l2 c2 w [] ((w.alloc (.cells #[.string a, .slice A l1.length c1] 49)).alloc (.cells #[.string b, .slice B l2.length c2] 49)) from
    have hb1 := below_alloc w (.cells #[.string a, .slice A l1.length c1] 49)
    have hb2 := below_alloc (w.alloc (.cells #[.string a, .slice A l1.length c1] 49)) (.cells #[.string b, .slice B l2.length c2] 49)
    ⟨(Bx.new w 49 _).below hb2, by have := Bx.new (w.alloc (.cells #[.string a, .slice A l1.length c1] 49)) 49 [.string b, .slice B l2.length c2]; simpa using this, (h1.below hb1).below hb2, (h2.below hb1).below hb2, fun y hy => absurd hy (by simp), below_t hb1 hb2⟩)
  clear h1 h2
  go_enter Tryd.func46, Tryd.ntmps46
  go_upto_region 1 with fail
  have lk := HLK.out.drew
  clear HLK
  generalize (w.alloc (.cells #[.string a, .slice A l1.length c1] 49)).alloc (.cells #[.string b, .slice B l2.length c2] 49) = w2 at *
  by_cases hab : a = b
  · subst hab
    refine wp_region_held_drew (S := (fun w' : World => w'.cell? ⟨w.heap.size, 0, none⟩ = some (.string a) ∧ w'.cell? ⟨w.heap.size, 1, none⟩ = some (.slice A l1.length c1) ∧ w'.cell? ⟨w.heap.size + 1, 0, none⟩ = some (.string a) ∧ w'.cell? ⟨w.heap.size + 1, 1, none⟩ = some (.slice B l2.length c2))) (by kernel_rfl) (⟨lk.b2.cell 0, lk.b2.cell 1, lk.b3.cell 0, lk.b3.cell 1⟩) (fun hHeld => ?_)
    refine wpAnyH_take (i := 0) (oi := { dst := some 5, op := Op.fieldAddr 49 (Operand.tmp 2) 0, type := 0, pos := "mdp.go:131", after := #[], guard := none }) (v := Value.pointer (some ⟨w.heap.size, 0, none⟩)) rfl (by kernel_rfl) (by kernel_rfl) (by kernel_rfl) (fun _ _ _ h => h) (Or.inl ⟨by rfl, ?hy⟩) (by assumption) ?_
    case hy => (intro wz hSw; (try dsimp only at hSw); go_simp)
    simp only [Act.put, List.setIfInBounds_toArray, List.set_cons_zero, List.set_cons_succ]
    refine wpAnyH_take (i := 1) (oi := { dst := some 6, op := Op.load 9 (Operand.tmp 5), type := 9, pos := "mdp.go:131", after := #[{ on := 0, ground := Ground.data }], guard := none }) (v := Value.string a) rfl (by kernel_rfl) (by kernel_rfl) (by kernel_rfl) (fun _ _ _ h => h) (Or.inl ⟨by rfl, ?hy⟩) (by assumption) ?_
    case hy => (intro wz hSw; (try dsimp only at hSw); go_simp)
    simp only [Act.put, List.setIfInBounds_toArray, List.set_cons_zero, List.set_cons_succ]
    refine wpAnyH_take (i := 2) (oi := { dst := some 7, op := Op.fieldAddr 49 (Operand.tmp 3) 0, type := 0, pos := "mdp.go:131", after := #[], guard := none }) (v := Value.pointer (some ⟨w.heap.size + 1, 0, none⟩)) rfl (by kernel_rfl) (by kernel_rfl) (by kernel_rfl) (fun _ _ _ h => h) (Or.inl ⟨by rfl, ?hy⟩) (by assumption) ?_
    case hy => (intro wz hSw; (try dsimp only at hSw); go_simp)
    simp only [Act.put, List.setIfInBounds_toArray, List.set_cons_zero, List.set_cons_succ]
    refine wpAnyH_take (i := 3) (oi := { dst := some 8, op := Op.load 9 (Operand.tmp 7), type := 9, pos := "mdp.go:131", after := #[{ on := 2, ground := Ground.data }], guard := none }) (v := Value.string a) rfl (by kernel_rfl) (by kernel_rfl) (by kernel_rfl) (fun _ _ _ h => h) (Or.inl ⟨by rfl, ?hy⟩) (by assumption) ?_
    case hy => (intro wz hSw; (try dsimp only at hSw); go_simp)
    simp only [Act.put, List.setIfInBounds_toArray, List.set_cons_zero, List.set_cons_succ]
    refine wpAnyH_take (i := 4) (oi := { dst := some 9, op := Op.binOp BinOp.eql 9 (Operand.tmp 6) (Operand.tmp 8) 9, type := 4, pos := "mdp.go:131", after := #[{ on := 1, ground := Ground.data }, { on := 3, ground := Ground.data }], guard := none }) (v := Value.bool true) rfl (by kernel_rfl) (by kernel_rfl) (by kernel_rfl) (fun _ _ _ h => h) (Or.inl ⟨by rfl, ?hy⟩) (by assumption) ?_
    case hy => (intro wz hSw; (try dsimp only at hSw); go_simp)
    simp only [Act.put, List.setIfInBounds_toArray, List.set_cons_zero, List.set_cons_succ]
    refine wpAnyH_take (i := 5) (oi := { dst := some 10, op := Op.move (Operand.tmp 9), type := 4, pos := "mdp.go:131", after := #[{ on := 4, ground := Ground.data }], guard := none }) (v := Value.bool true) rfl (by kernel_rfl) (by kernel_rfl) (by kernel_rfl) (fun _ _ _ h => h) (Or.inl ⟨by rfl, ?hy⟩) (by assumption) ?_
    case hy => (intro wz hSw; (try dsimp only at hSw); go_simp)
    simp only [Act.put, List.setIfInBounds_toArray, List.set_cons_zero, List.set_cons_succ]
    refine wpAnyH_take (i := 6) (oi := { dst := some 11, op := Op.load 49 (Operand.tmp 2), type := 49, pos := "mdp.go:131", after := #[{ on := 5, ground := Ground.guard }], guard := some (5, true) }) (v := (Value.agg #[.string a, .slice A l1.length c1])) rfl (by kernel_rfl) (by kernel_rfl) (by kernel_rfl) (fun _ _ _ h => h) (Or.inl ⟨by rfl, ?hy⟩) (by assumption) ?_
    case hy => (intro wz hSw; (try dsimp only at hSw); go_simp)
    simp only [Act.put, List.setIfInBounds_toArray, List.set_cons_zero, List.set_cons_succ]
    refine wpAnyH_take (i := 8) (oi := { dst := some 13, op := Op.load 49 (Operand.tmp 3), type := 49, pos := "mdp.go:131", after := #[{ on := 5, ground := Ground.guard }], guard := some (5, true) }) (v := (Value.agg #[.string a, .slice B l2.length c2])) rfl (by kernel_rfl) (by kernel_rfl) (by kernel_rfl) (fun _ _ _ h => h) (Or.inl ⟨by rfl, ?hy⟩) (by assumption) ?_
    case hy => (intro wz hSw; (try dsimp only at hSw); go_simp)
    simp only [Act.put, List.setIfInBounds_toArray, List.set_cons_zero, List.set_cons_succ]
    refine wpAnyH_ready (rs := [7]) (by kernel_rfl) (by simp) ?_
    refine AllReadyH.cons (o := { dst := some 12, op := Op.call { callee := Callee.value (Operand.func 27), args := #[Operand.tmp 11], argTypes := #[49] }, type := 36, pos := "mdp.go:131", after := #[{ on := 6, ground := Ground.data }, { on := 5, ground := Ground.chain }, { on := 5, ground := Ground.guard }], guard := some (5, true) }) rfl (fun K0 hK0 => ?_) AllReadyH.nil
    go_simp
    go_at_call 27
    with_reducible refine (lk.tg1 hl1).mono ?_
    rintro e wA ⟨C3, rfl, lk2⟩
    replace lk := lk2
    clear lk2
    go_wp2_with fail
    refine hK0.out _ _ (⟨lk.b2.cell 0, lk.b2.cell 1, lk.b3.cell 0, lk.b3.cell 1⟩) (fun hHeld => ?_)
    clear hK0 K0
    try simp only [Act.put, List.setIfInBounds_toArray, List.set_cons_zero, List.set_cons_succ]
    refine wpAnyH_ready (rs := [9]) (by kernel_rfl) (by simp) ?_
    refine AllReadyH.cons (o := { dst := some 14, op := Op.call { callee := Callee.value (Operand.func 27), args := #[Operand.tmp 13], argTypes := #[49] }, type := 36, pos := "mdp.go:131", after := #[{ on := 8, ground := Ground.data }, { on := 7, ground := Ground.chain }, { on := 5, ground := Ground.guard }], guard := some (5, true) }) rfl (fun K0 hK0 => ?_) AllReadyH.nil
    go_simp
    go_at_call 27
    with_reducible refine (lk.tg2 hl2).mono ?_
    rintro e wA ⟨C4, rfl, lk2⟩
    replace lk := lk2
    clear lk2
    go_wp2_with fail
    refine hK0.out _ _ (⟨lk.b2.cell 0, lk.b2.cell 1, lk.b3.cell 0, lk.b3.cell 1⟩) (fun hHeld => ?_)
    clear hK0 K0
    try simp only [Act.put, List.setIfInBounds_toArray, List.set_cons_zero, List.set_cons_succ]
    refine wpAnyH_ready (rs := [10]) (by kernel_rfl) (by simp) ?_
    refine AllReadyH.cons (o := { dst := some 15, op := Op.call { callee := Callee.value (Operand.func 30), args := #[Operand.tmp 12, Operand.tmp 14], argTypes := #[36, 36] }, type := 4, pos := "mdp.go:131", after := #[{ on := 7, ground := Ground.data }, { on := 9, ground := Ground.data }, { on := 9, ground := Ground.chain }, { on := 5, ground := Ground.guard }], guard := some (5, true) }) rfl (fun K0 hK0 => ?_) AllReadyH.nil
    go_simp
    go_at_call 30
    with_reducible refine (lk.eq (C := C3) (D := C4) (by simp) (by simp) hl1 hl2).mono ?_
    rintro e wA ⟨rfl, lk2⟩
    replace lk := lk2
    clear lk2
    go_wp2_with fail
    refine hK0.out _ _ (⟨lk.b2.cell 0, lk.b2.cell 1, lk.b3.cell 0, lk.b3.cell 1⟩) (fun hHeld => ?_)
    clear hK0 K0
    try simp only [Act.put, List.setIfInBounds_toArray, List.set_cons_zero, List.set_cons_succ]
    refine wpAnyH_take (i := 11) (oi := { dst := some 16, op := Op.pick (Operand.tmp 10) (Operand.tmp 15) (Operand.const (Value.bool false)), type := 4, pos := "mdp.go:131", after := #[{ on := 5, ground := Ground.data }, { on := 10, ground := Ground.data }], guard := none }) (v := Value.bool (decide (srt l1 = srt l2))) rfl (by kernel_rfl) (by kernel_rfl) (by kernel_rfl) (fun _ _ _ h => h) (Or.inl ⟨by rfl, ?hy⟩) (by assumption) ?_
    case hy => (intro wz hSw; (try dsimp only at hSw); go_simp)
    simp only [Act.put, List.setIfInBounds_toArray, List.set_cons_zero, List.set_cons_succ]
    refine wpAnyH_take (i := 12) (oi := { dst := some 4, op := Op.assign (Operand.tmp 16), type := 4, pos := "mdp.go:131", after := #[{ on := 11, ground := Ground.data }, { on := 10, ground := Ground.chain }, { on := 0, ground := Ground.phase }, { on := 1, ground := Ground.phase }, { on := 2, ground := Ground.phase }, { on := 3, ground := Ground.phase }, { on := 4, ground := Ground.phase }, { on := 5, ground := Ground.phase }, { on := 6, ground := Ground.phase }, { on := 7, ground := Ground.phase }, { on := 8, ground := Ground.phase }, { on := 9, ground := Ground.phase }, { on := 10, ground := Ground.phase }, { on := 11, ground := Ground.phase }], guard := none }) (v := Value.bool (decide (srt l1 = srt l2))) rfl (by kernel_rfl) (by kernel_rfl) (by kernel_rfl) (fun _ _ _ h => h) (Or.inl ⟨by rfl, ?hy⟩) (by assumption) ?_
    case hy => (intro wz hSw; (try dsimp only at hSw); go_simp)
    simp only [Act.put, List.setIfInBounds_toArray, List.set_cons_zero, List.set_cons_succ]
    refine wpAnyH_done (by kernel_rfl) ?_ _
    go_wp2
    go_ret
    refine ⟨ret_bool ?_, lk.b⟩
    simp [key]
  · have q : ¬ a.toList = b.toList := fun h => hab (tl_inj h)
    have HAB := Lib.hid hab
    clear hab
    refine wp_region_held_drew (S := (fun w' : World => w'.cell? ⟨w.heap.size, 0, none⟩ = some (.string a) ∧ w'.cell? ⟨w.heap.size, 1, none⟩ = some (.slice A l1.length c1) ∧ w'.cell? ⟨w.heap.size + 1, 0, none⟩ = some (.string b) ∧ w'.cell? ⟨w.heap.size + 1, 1, none⟩ = some (.slice B l2.length c2))) (by kernel_rfl) (⟨lk.b2.cell 0, lk.b2.cell 1, lk.b3.cell 0, lk.b3.cell 1⟩) (fun hHeld => ?_)
    refine wpAnyH_take (i := 0) (oi := { dst := some 5, op := Op.fieldAddr 49 (Operand.tmp 2) 0, type := 0, pos := "mdp.go:131", after := #[], guard := none }) (v := Value.pointer (some ⟨w.heap.size, 0, none⟩)) rfl (by kernel_rfl) (by kernel_rfl) (by kernel_rfl) (fun _ _ _ h => h) (Or.inl ⟨by rfl, ?hy⟩) (by assumption) ?_
    case hy => (intro wz hSw; (try dsimp only at hSw); go_simp)
    simp only [Act.put, List.setIfInBounds_toArray, List.set_cons_zero, List.set_cons_succ]
    refine wpAnyH_take (i := 1) (oi := { dst := some 6, op := Op.load 9 (Operand.tmp 5), type := 9, pos := "mdp.go:131", after := #[{ on := 0, ground := Ground.data }], guard := none }) (v := Value.string a) rfl (by kernel_rfl) (by kernel_rfl) (by kernel_rfl) (fun _ _ _ h => h) (Or.inl ⟨by rfl, ?hy⟩) (by assumption) ?_
    case hy => (intro wz hSw; (try dsimp only at hSw); go_simp)
    simp only [Act.put, List.setIfInBounds_toArray, List.set_cons_zero, List.set_cons_succ]
    refine wpAnyH_take (i := 2) (oi := { dst := some 7, op := Op.fieldAddr 49 (Operand.tmp 3) 0, type := 0, pos := "mdp.go:131", after := #[], guard := none }) (v := Value.pointer (some ⟨w.heap.size + 1, 0, none⟩)) rfl (by kernel_rfl) (by kernel_rfl) (by kernel_rfl) (fun _ _ _ h => h) (Or.inl ⟨by rfl, ?hy⟩) (by assumption) ?_
    case hy => (intro wz hSw; (try dsimp only at hSw); go_simp)
    simp only [Act.put, List.setIfInBounds_toArray, List.set_cons_zero, List.set_cons_succ]
    refine wpAnyH_take (i := 3) (oi := { dst := some 8, op := Op.load 9 (Operand.tmp 7), type := 9, pos := "mdp.go:131", after := #[{ on := 2, ground := Ground.data }], guard := none }) (v := Value.string b) rfl (by kernel_rfl) (by kernel_rfl) (by kernel_rfl) (fun _ _ _ h => h) (Or.inl ⟨by rfl, ?hy⟩) (by assumption) ?_
    case hy => (intro wz hSw; (try dsimp only at hSw); go_simp)
    simp only [Act.put, List.setIfInBounds_toArray, List.set_cons_zero, List.set_cons_succ]
    refine wpAnyH_take (i := 4) (oi := { dst := some 9, op := Op.binOp BinOp.eql 9 (Operand.tmp 6) (Operand.tmp 8) 9, type := 4, pos := "mdp.go:131", after := #[{ on := 1, ground := Ground.data }, { on := 3, ground := Ground.data }], guard := none }) (v := Value.bool false) rfl (by kernel_rfl) (by kernel_rfl) (by kernel_rfl) (fun _ _ _ h => h) (Or.inl ⟨by rfl, ?hy⟩) (by assumption) ?_
    case hy => (intro wz hSw; (try dsimp only at hSw); go_simp)
    simp only [Act.put, List.setIfInBounds_toArray, List.set_cons_zero, List.set_cons_succ]
    refine wpAnyH_take (i := 5) (oi := { dst := some 10, op := Op.move (Operand.tmp 9), type := 4, pos := "mdp.go:131", after := #[{ on := 4, ground := Ground.data }], guard := none }) (v := Value.bool false) rfl (by kernel_rfl) (by kernel_rfl) (by kernel_rfl) (fun _ _ _ h => h) (Or.inl ⟨by rfl, ?hy⟩) (by assumption) ?_
    case hy => (intro wz hSw; (try dsimp only at hSw); go_simp)
    simp only [Act.put, List.setIfInBounds_toArray, List.set_cons_zero, List.set_cons_succ]
    refine wpAnyH_take (i := 6) (oi := { dst := some 11, op := Op.load 49 (Operand.tmp 2), type := 49, pos := "mdp.go:131", after := #[{ on := 5, ground := Ground.guard }], guard := some (5, true) }) (v := undef) rfl (by kernel_rfl) (by kernel_rfl) (by kernel_rfl) (fun _ _ _ h => h) (Or.inr ⟨by rfl, rfl⟩) (by assumption) ?_
    simp only [Act.put, List.setIfInBounds_toArray, List.set_cons_zero, List.set_cons_succ]
    refine wpAnyH_take (i := 8) (oi := { dst := some 13, op := Op.load 49 (Operand.tmp 3), type := 49, pos := "mdp.go:131", after := #[{ on := 5, ground := Ground.guard }], guard := some (5, true) }) (v := undef) rfl (by kernel_rfl) (by kernel_rfl) (by kernel_rfl) (fun _ _ _ h => h) (Or.inr ⟨by rfl, rfl⟩) (by assumption) ?_
    simp only [Act.put, List.setIfInBounds_toArray, List.set_cons_zero, List.set_cons_succ]
    refine wpAnyH_ready (rs := [7]) (by kernel_rfl) (by simp) ?_
    refine AllReadyH.cons (o := { dst := some 12, op := Op.call { callee := Callee.value (Operand.func 27), args := #[Operand.tmp 11], argTypes := #[49] }, type := 36, pos := "mdp.go:131", after := #[{ on := 6, ground := Ground.data }, { on := 5, ground := Ground.chain }, { on := 5, ground := Ground.guard }], guard := some (5, true) }) rfl (fun K0 hK0 => ?_) AllReadyH.nil
    refine Eq.mpr (if_neg ?hn) ?_
    case hn => exact fun hx => Bool.noConfusion (show false = true from hx)
    refine hK0.out _ _ (⟨lk.b2.cell 0, lk.b2.cell 1, lk.b3.cell 0, lk.b3.cell 1⟩) (fun hHeld => ?_)
    clear hK0 K0
    try simp only [Act.put, List.setIfInBounds_toArray, List.set_cons_zero, List.set_cons_succ]
    refine wpAnyH_ready (rs := [9]) (by kernel_rfl) (by simp) ?_
    refine AllReadyH.cons (o := { dst := some 14, op := Op.call { callee := Callee.value (Operand.func 27), args := #[Operand.tmp 13], argTypes := #[49] }, type := 36, pos := "mdp.go:131", after := #[{ on := 8, ground := Ground.data }, { on := 7, ground := Ground.chain }, { on := 5, ground := Ground.guard }], guard := some (5, true) }) rfl (fun K0 hK0 => ?_) AllReadyH.nil
    refine Eq.mpr (if_neg ?hn) ?_
    case hn => exact fun hx => Bool.noConfusion (show false = true from hx)
    refine hK0.out _ _ (⟨lk.b2.cell 0, lk.b2.cell 1, lk.b3.cell 0, lk.b3.cell 1⟩) (fun hHeld => ?_)
    clear hK0 K0
    try simp only [Act.put, List.setIfInBounds_toArray, List.set_cons_zero, List.set_cons_succ]
    refine wpAnyH_ready (rs := [10]) (by kernel_rfl) (by simp) ?_
    refine AllReadyH.cons (o := { dst := some 15, op := Op.call { callee := Callee.value (Operand.func 30), args := #[Operand.tmp 12, Operand.tmp 14], argTypes := #[36, 36] }, type := 4, pos := "mdp.go:131", after := #[{ on := 7, ground := Ground.data }, { on := 9, ground := Ground.data }, { on := 9, ground := Ground.chain }, { on := 5, ground := Ground.guard }], guard := some (5, true) }) rfl (fun K0 hK0 => ?_) AllReadyH.nil
    refine Eq.mpr (if_neg ?hn) ?_
    case hn => exact fun hx => Bool.noConfusion (show false = true from hx)
    refine hK0.out _ _ (⟨lk.b2.cell 0, lk.b2.cell 1, lk.b3.cell 0, lk.b3.cell 1⟩) (fun hHeld => ?_)
    clear hK0 K0
    try simp only [Act.put, List.setIfInBounds_toArray, List.set_cons_zero, List.set_cons_succ]
    refine wpAnyH_take (i := 11) (oi := { dst := some 16, op := Op.pick (Operand.tmp 10) (Operand.tmp 15) (Operand.const (Value.bool false)), type := 4, pos := "mdp.go:131", after := #[{ on := 5, ground := Ground.data }, { on := 10, ground := Ground.data }], guard := none }) (v := Value.bool false) rfl (by kernel_rfl) (by kernel_rfl) (by kernel_rfl) (fun _ _ _ h => h) (Or.inl ⟨by rfl, ?hy⟩) (by assumption) ?_
    case hy => (intro wz hSw; (try dsimp only at hSw); go_simp)
    simp only [Act.put, List.setIfInBounds_toArray, List.set_cons_zero, List.set_cons_succ]
    refine wpAnyH_take (i := 12) (oi := { dst := some 4, op := Op.assign (Operand.tmp 16), type := 4, pos := "mdp.go:131", after := #[{ on := 11, ground := Ground.data }, { on := 10, ground := Ground.chain }, { on := 0, ground := Ground.phase }, { on := 1, ground := Ground.phase }, { on := 2, ground := Ground.phase }, { on := 3, ground := Ground.phase }, { on := 4, ground := Ground.phase }, { on := 5, ground := Ground.phase }, { on := 6, ground := Ground.phase }, { on := 7, ground := Ground.phase }, { on := 8, ground := Ground.phase }, { on := 9, ground := Ground.phase }, { on := 10, ground := Ground.phase }, { on := 11, ground := Ground.phase }], guard := none }) (v := Value.bool false) rfl (by kernel_rfl) (by kernel_rfl) (by kernel_rfl) (fun _ _ _ h => h) (Or.inl ⟨by rfl, ?hy⟩) (by assumption) ?_
    case hy => (intro wz hSw; (try dsimp only at hSw); go_simp)
    simp only [Act.put, List.setIfInBounds_toArray, List.set_cons_zero, List.set_cons_succ]
    refine wpAnyH_done (by kernel_rfl) ?_ _
    go_wp2
    go_ret
    refine ⟨ret_bool ?_, lk.b⟩
    have := HAB.out
    simp [key, this]
open Classical in
set_option maxHeartbeats 8000000 in
set_option maxRecDepth 100000 in
theorem eqfc_any {A B : Option Addr} {l1 l2 : List ChO} {c1 c2 : Nat} (w : World) (h1 : CSl w A l1) (h2 : CSl w B l2) (hl1 : l1.length ≤ 1000000) (hs1 : ∀ x ∈ l1, x.mv.length ≤ 1000000) (hs2 : ∀ x ∈ l2, x.mv.length ≤ 1000000) : Calls Tryd.prog 45 #[.slice A l1.length c1, .slice B l2.length c2, .func (.func 46) #[] #[]] w (BoolP (decide (l1.map key = l2.map key)) w) := by
  have H1 := Lib.hid h1
  have H2 := Lib.hid h2
  have HS1 := Lib.hid hs1
  have HS2 := Lib.hid hs2
  clear hs1 hs2
  clear h1 h2
  by_cases hlen : l1.length = l2.length
  · obtain ⟨n, hn⟩ : ∃ n, n = l1.length := ⟨_, rfl⟩
    have HN1 := Lib.hid hn
    have HN2 := Lib.hid (hn.trans hlen)
    have HLE := Lib.hid hlen
    rw [← hlen, ← hn]
    rw [← hn] at hl1
    clear hn hlen
    go_enter Tryd.func45, Tryd.ntmps45
    go_wp2
    go_loopw [17] (fun i wr => EfRel key l1 l2 n w i wr) (fun i _ => n - (intOf i).toNat)
    case atStart => exact efStart _ _ _ _ _
    case round =>
      obtain ⟨k, rfl, hk, hp, hb⟩ := hrel
      have HPP := Lib.hid hp
      have HB := Lib.hid hb
      clear hp
      by_cases hkn : k < n
      · have e1 : decide (k < n) = true := by simp; omega
        have k1 : k < l1.length := by rw [← HN1.out]; exact hkn
        have k2 : k < l2.length := by rw [← HN2.out]; exact hkn
        obtain ⟨g1, o1, B1, cap1, rfl, x1, z1, -, y1⟩ := H1.out k k1
        obtain ⟨g2, o2, B2, cap2, rfl, x2, z2, -, y2⟩ := H2.out k k2
        have Y1 := Lib.hid y1
        have Y2 := Lib.hid y2
        have HZ1 := Lib.hid H1
        have HZ2 := Lib.hid H2
        have HBA := Lib.hid hb
        replace x1 := cell_blw hb x1
        replace x2 := cell_blw hb x2
        replace z1 := cell_blw hb z1
        replace z2 := cell_blw hb z2
        have q1 := World.block_lt_of_cell? wr _ x1
        have q2 := World.block_lt_of_cell? wr _ x2
        have z1' := z1
        have z2' := z2
        rw [← Nat.add_assoc] at z1' z2'
        clear H1 H2 y1 y2 hb
        go_wp2_with fail
        replace HBA := Lib.hid (below_t HBA.out (below_t (below_alloc wr (.cells #[.string l1[k].act, .slice B1 l1[k].mv.length cap1] 49)) (below_alloc (wr.alloc (.cells #[.string l1[k].act, .slice B1 l1[k].mv.length cap1] 49)) (.cells #[.string l2[k].act, .slice B2 l2[k].mv.length cap2] 49))))
        with_reducible refine (chclo_any (a := l1[k].act) (b := l2[k].act) _ (Y1.out.below HBA.out) (Y2.out.below HBA.out) (HS1.out _ (List.getElem_mem k1)) (HS2.out _ (List.getElem_mem k2))).mono ?_
        rintro e w1 ⟨rfl, hb1⟩
        by_cases he : key l1[k] = key l2[k]
        · have HD := Lib.hid (show decide (key l1[k] = key l2[k]) = true from decide_eq_true he)
          have HQ := Lib.hid (show EfRel key l1 l2 n w (.int .i64 ((k + 1 : Nat) : Int)) w1 from ⟨k + 1, rfl, hkn, fun i h1 h2 hi => by
            by_cases hik : i < k
            · exact HPP.out i h1 h2 hik
            · have : i = k := by omega
              subst this
              exact he, below_t HBA.out hb1⟩)
          clear he
          replace HD := HD.out
          try dsimp only [id] at HD
          rw [HD]
          clear HD
          go_wp2
          go_roundw
          case rel => exact HQ.out
          case measure => simp [intOf]; omega
        · have HD := Lib.hid (show decide (key l1[k] = key l2[k]) = false from decide_eq_false he)
          have HQ := Lib.hid (show false = decide (l1.map key = l2.map key) from (decide_eq_false fun h => he (eqk_no h k k1 k2)).symm)
          have HBB := Lib.hid (below_t HBA.out hb1)
          clear he
          replace HD := HD.out
          try dsimp only [id] at HD
          rw [HD]
          clear HD
          go_wp2
          go_ret
          exact ⟨ret_bool HQ.out, HBB.out⟩
      · have e1 : decide (k < n) = false := by simp; omega
        have HQ := Lib.hid (show true = decide (l1.map key = l2.map key) from (decide_eq_true (eqk_yes HLE.out fun i h1 h2 => HPP.out i h1 h2 (by have := HN1.out; omega))).symm)
        go_wp2
        go_ret
        exact ⟨ret_bool HQ.out, HB.out⟩
  · have HE := Lib.hid (show false = decide (l1.map key = l2.map key) from (decide_eq_false fun e => hlen (eqk_len e)).symm)
    clear H1 H2
    generalize l1.length = n1 at *
    generalize l2.length = n2 at *
    have d1 : ((n1 : Int) == (n2 : Int)) = false := by rw [beq_eq_false_iff_ne]; omega
    have d2 : ¬ (n1 : Int) = (n2 : Int) := by omega
    go_enter Tryd.func45, Tryd.ntmps45
    go_wp2
    go_ret
    exact ⟨ret_bool HE.out, Below.refl _ _⟩
theorem chalike_any {A B : Option Addr} {l1 l2 : List ChO} {c1 c2 : Nat} (w : World) (h1 : CSl w A l1) (h2 : CSl w B l2) (hl1 : l1.length ≤ 1000000) (hs1 : ∀ x ∈ l1, x.mv.length ≤ 1000000) (hs2 : ∀ x ∈ l2, x.mv.length ≤ 1000000) : Calls Tryd.prog 32 #[.slice A l1.length c1, .slice B l2.length c2] w (BoolP (decide (keys l1 = keys l2)) w) := by
  have HC := Lib.hid (eqfc_any (c1 := c1) (c2 := c2) w h1 h2 hl1 hs1 hs2)
  clear h1 h2 hl1 hs1 hs2
  go_enter Tryd.func32, Tryd.ntmps32
  go_wp2_with fail
  with_reducible refine (HC.out).mono ?_
  rintro e w1 ⟨rfl, hb1⟩
  have HB := Lib.hid hb1
  clear hb1
  go_wp2
  go_ret
  exact ⟨ret_bool (by unfold keys; rfl), HB.out⟩
open Classical in
set_option maxHeartbeats 8000000 in
set_option maxRecDepth 100000 in
theorem eqfl_any {A B : Option Addr} {l1 l2 : List (List ChO)} {c1 c2 : Nat} (w : World) (h1 : LSl w A l1) (h2 : LSl w B l2) (hl1 : l1.length ≤ 1000000) (hs1 : ∀ x ∈ l1, x.length ≤ 1000000) (hm1 : ∀ x ∈ l1, ∀ c ∈ x, c.mv.length ≤ 1000000) (hm2 : ∀ x ∈ l2, ∀ c ∈ x, c.mv.length ≤ 1000000) : Calls Tryd.prog 31 #[.slice A l1.length c1, .slice B l2.length c2, .func (.func 32) #[] #[]] w (BoolP (decide (l1.map keys = l2.map keys)) w) := by
  have H1 := Lib.hid h1
  have H2 := Lib.hid h2
  have HS1 := Lib.hid hs1
  have HM1 := Lib.hid hm1
  have HM2 := Lib.hid hm2
  clear hs1 hm1 hm2
  clear h1 h2
  by_cases hlen : l1.length = l2.length
  · obtain ⟨n, hn⟩ : ∃ n, n = l1.length := ⟨_, rfl⟩
    have HN1 := Lib.hid hn
    have HN2 := Lib.hid (hn.trans hlen)
    have HLE := Lib.hid hlen
    rw [← hlen, ← hn]
    rw [← hn] at hl1
    clear hn hlen
    go_enter Tryd.func31, Tryd.ntmps31
    go_wp2
    go_loopw [17] (fun i wr => EfRel keys l1 l2 n w i wr) (fun i _ => n - (intOf i).toNat)
    case atStart => exact efStart _ _ _ _ _
    case round =>
      obtain ⟨k, rfl, hk, hp, hb⟩ := hrel
      have HPP := Lib.hid hp
      have HB := Lib.hid hb
      clear hp
      by_cases hkn : k < n
      · have e1 : decide (k < n) = true := by simp; omega
        have k1 : k < l1.length := by rw [← HN1.out]; exact hkn
        have k2 : k < l2.length := by rw [← HN2.out]; exact hkn
        obtain ⟨g1, o1, B1, cap1, rfl, x1, -, y1⟩ := H1.out k k1
        obtain ⟨g2, o2, B2, cap2, rfl, x2, -, y2⟩ := H2.out k k2
        have Y1 := Lib.hid y1
        have Y2 := Lib.hid y2
        have HZ1 := Lib.hid H1
        have HZ2 := Lib.hid H2
        have HBA := Lib.hid hb
        replace x1 := cell_blw hb x1
        replace x2 := cell_blw hb x2
        clear H1 H2 y1 y2 hb
        go_wp2_with fail
        with_reducible refine (chalike_any _ (Y1.out.below HBA.out) (Y2.out.below HBA.out) (HS1.out _ (List.getElem_mem k1)) (HM1.out _ (List.getElem_mem k1)) (HM2.out _ (List.getElem_mem k2))).mono ?_
        rintro e w1 ⟨rfl, hb1⟩
        by_cases he : keys l1[k] = keys l2[k]
        · have HD := Lib.hid (show decide (keys l1[k] = keys l2[k]) = true from decide_eq_true he)
          have HQ := Lib.hid (show EfRel keys l1 l2 n w (.int .i64 ((k + 1 : Nat) : Int)) w1 from ⟨k + 1, rfl, hkn, fun i h1 h2 hi => by
            by_cases hik : i < k
            · exact HPP.out i h1 h2 hik
            · have : i = k := by omega
              subst this
              exact he, below_t HBA.out hb1⟩)
          clear he
          replace HD := HD.out
          try dsimp only [id] at HD
          rw [HD]
          clear HD
          go_wp2
          go_roundw
          case rel => exact HQ.out
          case measure => simp [intOf]; omega
        · have HD := Lib.hid (show decide (keys l1[k] = keys l2[k]) = false from decide_eq_false he)
          have HQ := Lib.hid (show false = decide (l1.map keys = l2.map keys) from (decide_eq_false fun h => he (eqk_no h k k1 k2)).symm)
          have HBB := Lib.hid (below_t HBA.out hb1)
          clear he
          replace HD := HD.out
          try dsimp only [id] at HD
          rw [HD]
          clear HD
          go_wp2
          go_ret
          exact ⟨ret_bool HQ.out, HBB.out⟩
      · have e1 : decide (k < n) = false := by simp; omega
        have HQ := Lib.hid (show true = decide (l1.map keys = l2.map keys) from (decide_eq_true (eqk_yes HLE.out fun i h1 h2 => HPP.out i h1 h2 (by have := HN1.out; omega))).symm)
        go_wp2
        go_ret
        exact ⟨ret_bool HQ.out, HB.out⟩
  · have HE := Lib.hid (show false = decide (l1.map keys = l2.map keys) from (decide_eq_false fun e => hlen (eqk_len e)).symm)
    clear H1 H2
    generalize l1.length = n1 at *
    generalize l2.length = n2 at *
    have d1 : ((n1 : Int) == (n2 : Int)) = false := by rw [beq_eq_false_iff_ne]; omega
    have d2 : ¬ (n1 : Int) = (n2 : Int) := by omega
    go_enter Tryd.func31, Tryd.ntmps31
    go_wp2
    go_ret
    exact ⟨ret_bool HE.out, Below.refl _ _⟩
def alikeO (p q : PrO) : Prop := p.init = q.init ∧ p.nms = q.nms ∧ p.hds = q.hds ∧ p.chs.map keys = q.chs.map keys
open Classical in
set_option maxHeartbeats 8000000 in
set_option maxRecDepth 100000 in
theorem malike_any {p q : PrO} {v u : PV} (w : World) (hp : PrM w v p) (hq : PrM w u q) (hsp : Sml p) (hsq : Sml q) : Calls Tryd.prog 19 #[.agg #[.int .i64 p.init, .slice v.A p.chs.length v.a, .slice v.B p.nms.length v.b, .slice v.C p.hds.length v.c], .agg #[.int .i64 q.init, .slice u.A q.chs.length u.a, .slice u.B q.nms.length u.b, .slice u.C q.hds.length u.c]] w (BoolP (decide (alikeO p q)) w) := by
  have hb0 : Below w.heap.size w ((w.alloc (.cells #[.int .i64 p.init, .slice v.A p.chs.length v.a, .slice v.B p.nms.length v.b, .slice v.C p.hds.length v.c] 31)).alloc (.cells #[.int .i64 q.init, .slice u.A q.chs.length u.a, .slice u.B q.nms.length u.b, .slice u.C q.hds.length u.c] 31)) := below_t (below_alloc w _) (below_alloc _ _)
  have HB0 := Lib.hid hb0
  have hx := (Bx.new w 31 [.int .i64 p.init, .slice v.A p.chs.length v.a, .slice v.B p.nms.length v.b, .slice v.C p.hds.length v.c]).below (below_alloc (w.alloc (.cells #[.int .i64 p.init, .slice v.A p.chs.length v.a, .slice v.B p.nms.length v.b, .slice v.C p.hds.length v.c] 31)) (.cells #[.int .i64 q.init, .slice u.A q.chs.length u.a, .slice u.B q.nms.length u.b, .slice u.C q.hds.length u.c] 31))
  have hy := Bx.new (w.alloc (.cells #[.int .i64 p.init, .slice v.A p.chs.length v.a, .slice v.B p.nms.length v.b, .slice v.C p.hds.length v.c] 31)) 31 [.int .i64 q.init, .slice u.A q.chs.length u.a, .slice u.B q.nms.length u.b, .slice u.C q.hds.length u.c]
  have hz : (w.alloc (.cells #[.int .i64 p.init, .slice v.A p.chs.length v.a, .slice v.B p.nms.length v.b, .slice v.C p.hds.length v.c] 31)).heap.size = w.heap.size + 1 := by simp
  rw [hz] at hy
  obtain ⟨x0, x1, x2, x3⟩ := hx.cells4
  obtain ⟨y0, y1, y2, y3⟩ := hy.cells4
  have HN := Lib.hid (fun (W : World) (hb : Below w.heap.size w W) => equals_any (c1 := v.b) (c2 := u.b) W (hp.nm.below hb) (hq.nm.below hb) hsp.nm hsq.nm)
  have HH := Lib.hid (fun (W : World) (hb : Below w.heap.size w W) => eqfh_any (c1 := v.c) (c2 := u.c) W (hp.hd.below hb) (hq.hd.below hb) hsp.hd hsp.hs hsq.hs)
  have HC := Lib.hid (fun (W : World) (hb : Below w.heap.size w W) => eqfl_any (c1 := v.a) (c2 := u.a) W (hp.ch.below hb) (hq.ch.below hb) hsp.ch hsp.cs hsp.mv hsq.mv)
  rw [List.map_id, List.map_id] at HH
  have HX := Lib.hid hx
  have HY := Lib.hid hy
  clear hp hq hsp hsq hb0 hx hy hz
  go_enter Tryd.func19, Tryd.ntmps19
  by_cases hi : p.init = q.init
  · have q0 : (p.init == q.init) = true := by rw [hi]; simp
    have q1 : decide (p.init = q.init) = true := decide_eq_true hi
    have HI := Lib.hid hi
    generalize hpi : p.init = ip at *
    generalize hqi : q.init = iq at *
    have HPI := Lib.hid hpi
    have HQI := Lib.hid hqi
    clear hi hpi hqi
    go_wp2_with fail
    with_reducible refine (HN.out _ HB0.out).mono ?_
    rintro e w1 ⟨rfl, hb1⟩
    have HB1 := Lib.hid (below_t HB0.out hb1)
    have HX1 := Lib.hid (HX.out.below hb1)
    have HY1 := Lib.hid (HY.out.below hb1)
    clear x0 x1 x2 x3 y0 y1 y2 y3 HX HY hb1
    obtain ⟨x0, x1, x2, x3⟩ := HX1.out.cells4
    obtain ⟨y0, y1, y2, y3⟩ := HY1.out.cells4
    by_cases hn : p.nms = q.nms
    · rw [decide_eq_true hn]
      have HNN := Lib.hid hn
      clear hn
      go_wp2_with fail
      with_reducible refine (HH.out _ HB1.out).mono ?_
      rintro e w2 ⟨rfl, hb2⟩
      have HB2 := Lib.hid (below_t HB1.out hb2)
      have HX2 := Lib.hid (HX1.out.below hb2)
      have HY2 := Lib.hid (HY1.out.below hb2)
      clear x0 x1 x2 x3 y0 y1 y2 y3 HX1 HY1 hb2
      obtain ⟨x0, x1, x2, x3⟩ := HX2.out.cells4
      obtain ⟨y0, y1, y2, y3⟩ := HY2.out.cells4
      by_cases hh : p.hds = q.hds
      · rw [decide_eq_true hh]
        have HHH := Lib.hid hh
        clear hh
        go_wp2_with fail
        with_reducible refine (HC.out _ HB2.out).mono ?_
        rintro e w3 ⟨rfl, hb3⟩
        have HB3 := Lib.hid (below_t HB2.out hb3)
        clear hb3
        go_wp2
        go_ret
        refine ⟨ret_bool ?_, HB3.out⟩
        have h1 : p.init = q.init := by rw [HPI.out, HQI.out]; exact HI.out
        have h2 := HNN.out
        have h3 := HHH.out
        by_cases h4 : p.chs.map keys = q.chs.map keys
        · rw [decide_eq_true h4, decide_eq_true (show alikeO p q from ⟨h1, h2, h3, h4⟩)]
        · rw [decide_eq_false h4, decide_eq_false (show ¬ alikeO p q from fun h => h4 h.2.2.2)]
      · rw [decide_eq_false hh]
        have HE := Lib.hid (show false = decide (alikeO p q) from (decide_eq_false fun h => hh h.2.2.1).symm)
        clear hh
        go_wp2
        go_ret
        exact ⟨ret_bool HE.out, HB2.out⟩
    · rw [decide_eq_false hn]
      have HE := Lib.hid (show false = decide (alikeO p q) from (decide_eq_false fun h => hn h.2.1).symm)
      clear hn
      go_wp2
      go_ret
      exact ⟨ret_bool HE.out, HB1.out⟩
  · have HE := Lib.hid (show false = decide (alikeO p q) from (decide_eq_false fun h => hi h.1).symm)
    have q0 : (p.init == q.init) = false := by simp [hi]
    go_wp2
    go_ret
    exact ⟨ret_bool HE.out, HB0.out⟩
end Go.Proofs.YtkgjpimapfmeoaaDoor
