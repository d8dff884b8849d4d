/-
  Index, all, label; walked.
-/
import Derived.Test.YtkddaobbjfnckaaGreatDoorO7
import Derived.Test.YtkddaobbjfnckaaGreatDoorH4
import Derived.Lib.OwnBridge
namespace Go.Proofs.YtkddaobbjfnckaaGreatDoor
open Go.RowKit

theorem posO_lt {l : List ByteArray} {x : ByteArray} (h : x ∈ l) : posO l x < l.length := List.findIdx_lt_length_of_exists ⟨x, h, by simp⟩
theorem posO_get {l : List ByteArray} {x : ByteArray} (h : x ∈ l) : l[posO l x]'(posO_lt h) = x := by
  have := List.findIdx_getElem (xs := l) (p := fun y => decide (y = x)) (w := posO_lt h)
  unfold posO
  simpa using this
theorem posO_before {l : List ByteArray} {x : ByteArray} {j : Nat} (h : j < posO l x) (hj : j < l.length) : l[j] ≠ x := by
  have := List.not_of_lt_findIdx h
  simpa using this
open Classical in
theorem index_any {A : Option Addr} {l : List ByteArray} {cap : Nat} (x : ByteArray) (w : World) (hl : SSl w A l) (hlen : l.length ≤ 1000000) :
    Calls Tryz.prog 53 #[.slice A l.length cap, .string x] w fun e w' => e = .returned (.int .i64 (if x ∈ l then ((posO l x : Nat) : Int) else -1)) ∧ w' = w := by
  have hv : Lib.idxOfS l x = if x ∈ l then ((posO l x : Nat) : Int) else -1 := by
    by_cases hx : x ∈ l
    · rw [if_pos hx]
      have h1 := posO_lt hx
      have h2 := Lib.idxOfS_hit l l.length (posO l x) x h1 (Nat.le_refl _) (by rw [List.getD_eq_getElem?_getD, List.getElem?_eq_getElem h1]; exact posO_get hx) (fun j hj => by
        rw [List.getD_eq_getElem?_getD, List.getElem?_eq_getElem (by omega)]
        exact posO_before hj (by omega))
      rwa [List.take_of_length_le (Nat.le_refl _)] at h2
    · rw [if_neg hx]
      have h2 := Lib.idxOfS_miss l l.length x (fun j hj => by
        rw [List.getD_eq_getElem?_getD, List.getElem?_eq_getElem hj]
        exact fun e => hx (by rw [← e]; exact List.getElem_mem hj))
      rwa [List.take_of_length_le (Nat.le_refl _)] at h2
  by_cases h0 : l.length = 0
  · have he : l = [] := List.eq_nil_of_length_eq_zero h0
    subst he
    refine (Tryz.slices_Index_string_empty A cap x w).mono ?_
    rintro e w1 ⟨rfl, rfl⟩
    exact ⟨by rw [hv], rfl⟩
  · obtain ⟨g, o, rfl, _⟩ := hl 0 (by omega)
    refine (Tryz.slices_Index_string g o l.length cap l x w (Nat.le_refl _) (by omega) (fun j hj => by
      obtain ⟨g', o', e, hc⟩ := hl j hj
      injection e with e
      injection e with e1 e2
      subst e1 e2
      rw [hc, List.getD_eq_getElem?_getD, List.getElem?_eq_getElem hj]; rfl)).mono ?_
    rintro e w1 ⟨rfl, rfl⟩
    exact ⟨by rw [List.take_of_length_le (Nat.le_refl _), hv], rfl⟩
/-- The word's places in the program's own form. -/
abbrev plv (N : Option Addr) (nl nc : Nat) (P : Option Addr) (pl pc : Nat) (a : Nat) : Value := .agg #[.slice N nl nc, .slice P pl pc, .int .i64 (a : Int)]
theorem all_any {N P : Option Addr} {nl nc pl pc a : Nat} {b : Bool} (w : World) (h1 : 1 ≤ pl) (h2 : pl ≤ 1000000) : Calls Tryz.prog 56 #[plv N nl nc P pl pc a, .bool b] w (BLP (List.replicate pl b) w) := by
  have HB := Lib.hid (fun (W : World) (g : Nat) (h : W.cell? ⟨g, 0, none⟩ = some (.bool b)) => repeat_any (c := 1) W h h1 h2)
  go_enter Tryz.func56, Tryz.ntmps56
  go_wp2_with fail
  refine (HB.out _ _ (by simp)).mono ?_
  rintro e w1 ⟨A, cap, rfl, hc, hB, hb⟩
  have HB1 := Lib.hid hB
  have HBL := Lib.hid hb
  clear hB hb HB
  go_wp2_with fail
  go_ret
  exact ⟨A, cap, by rw [List.length_replicate]; rfl, hc, HB1.out, below_t (below_t (below_alloc _ _) (below_alloc _ _)) HBL.out⟩
theorem bit_test (c : Nat) (p : Nat) (hc : c < 64) (hp : p < 6) : (bits .and .i64 (c : Int) ((2 ^ p : Nat) : Int) != 0) = c.testBit p := by
  have h : ∀ c : Fin 64, ∀ p : Fin 6, (bits .and .i64 ((c.val : Nat) : Int) ((2 ^ p.val : Nat) : Int) != 0) = c.val.testBit p.val := by decide +kernel
  exact h ⟨c, hc⟩ ⟨p, hp⟩
theorem sh_pow (p : Nat) (hp : p < 6) : wrap64 (2 ^ p) = ((2 ^ p : Nat) : Int) := by
  have h : ∀ p : Fin 6, wrap64 (2 ^ p.val) = ((2 ^ p.val : Nat) : Int) := by decide +kernel
  exact h ⟨p, hp⟩
def lbL (ls : List Int) (p : Nat) : List Bool := ls.map fun c => c.toNat.testBit p
set_option maxHeartbeats 4000000 in
set_option maxRecDepth 100000 in
theorem plab_any {N P : Option Addr} {nms : List ByteArray} {ls : List Int} {nc pc a : Nat} {x : ByteArray} (w : World) (hn : SSl w N nms) (hp : ISl w P ls) (hx : x ∈ nms) (h6 : nms.length ≤ 6) (hlen : ls.length ≤ 1000000) (hc : ∀ c ∈ ls, 0 ≤ c ∧ c < 64) :
    Calls Tryz.prog 57 #[plv N nms.length nc P ls.length pc a, .string x] w (BLP (lbL ls (posO nms x)) w) := by
  obtain ⟨i0, hi0, hz⟩ := Option.map_eq_some_iff.1 infoBo
  simp only [Prod.mk.injEq] at hz
  obtain ⟨hz0, hz1, hz2⟩ := hz
  have HI := Lib.hid hi0
  have HZ0 := Lib.hid hz0
  have HZ1 := Lib.hid hz1
  have HZ2 := Lib.hid hz2
  have HN := Lib.hid (fun (W : World) (h : SSl W N nms) => index_any (cap := nc) x W h (by omega))
  have HNS := Lib.hid hn
  have HP := Lib.hid hp
  have HC := Lib.hid hc
  have hpos := posO_lt hx
  have hpos6 : posO nms x < 6 := by omega
  simp only [if_pos hx] at HN
  obtain ⟨p, hpp⟩ : ∃ p, p = posO nms x := ⟨_, rfl⟩
  rw [← hpp] at HN hpos6 ⊢
  obtain ⟨tgt, ht⟩ : ∃ t, t = lbL ls p := ⟨_, rfl⟩
  have HT := Lib.hid ht
  have HTL := Lib.hid (show tgt.length = ls.length by rw [ht]; simp [lbL])
  rw [← ht]
  obtain ⟨n, hnn⟩ : ∃ n, n = ls.length := ⟨_, rfl⟩
  have HNN := Lib.hid hnn
  obtain ⟨m, hmm⟩ : ∃ m, m = nms.length := ⟨_, rfl⟩
  rw [← hnn] at hlen HTL ⊢
  rw [← hmm] at HN ⊢
  have HSH := Lib.hid (show wrap64 (2 ^ p) = ((2 ^ p : Nat) : Int) from sh_pow p hpos6)
  have HP6 := Lib.hid hpos6
  clear hn hp hx h6 hc hpos hpp ht hnn hmm hi0 hz0 hz1 hz2
  go_enter Tryz.func57, Tryz.ntmps57
  go_wp2_with fail
  refine (HN.out _ (HNS.out.below (below_alloc _ _))).mono ?_
  rintro e w1 ⟨rfl, rfl⟩
  go_wp2_with (at_make; refine wpList_make_full _ rfl _ _ 39 rfl (w.heap.size + 1) 4 i0 (.bool false) 1 Tryz.underlying39 HI.out HZ0.out HZ1.out .i64 .i64 (n : Int) (n : Int) n rfl rfl rfl rfl (by rw [HZ2.out]; omega) (by unfold maxLen; omega) (by simp) ?_)
  intro w1 ho1 hg1
  rw [made_one] at ho1
  have HB1 := Lib.hid ((below_alloc w (.cells #[.slice N m nc, .slice P n pc, .int .i64 (a : Int)] 76)).grown hg1 (by simp) (fun k hk => by cases hk))
  have HP1 := Lib.hid (show Bx w1 w.heap.size 76 [.slice N m nc, .slice P n pc, .int .i64 (a : Int)] from (hg1.block w.heap.size (by simp) (by intro e; cases e)).trans (Bx.new w 76 _))
  have HX1 := Lib.hid (FilR.start (w0 := w) (tgt := tgt) (owns_full ho1) (Nat.le_succ _) HB1.out)
  obtain ⟨B, hB⟩ : ∃ B : Int, B = wrap64 (2 ^ p) := ⟨_, rfl⟩
  rw [← hB]
  have HBV := Lib.hid (show B = ((2 ^ p : Nat) : Int) by rw [hB]; exact HSH.out)
  obtain ⟨-, b1, -⟩ := HP1.out.tri
  have hz1 := HP1.out.lt
  clear ho1 hg1 hB
  go_wp2
  go_loopw [21] (fun i wr => FilRel (w.heap.size + 1) n tgt w i wr) (fun i _ => n - (intOf i).toNat)
  case atStart => exact ⟨0, rfl, Nat.zero_le _, HX1.out⟩
  case round =>
    obtain ⟨k, rfl, hk, hF⟩ := hrel
    by_cases hlt : k < n
    · have d1 : decide (k < n) = true := by simp; omega
      have kk : k < ls.length := by rw [← HNN.out]; exact hlt
      obtain ⟨g, o, rfl, c1⟩ := HP.out.below hF.blw k kk
      have HLL := Lib.hid HP
      clear HP
      obtain ⟨⟨b0, c2⟩, f2, g2⟩ := hF.cell hlt
      have HE := Lib.hid (show ls[k].toNat.testBit p = tgt.getD k false by rw [HT.out, lbL, List.getD_eq_getElem?_getD, List.getElem?_map, List.getElem?_eq_getElem kk]; rfl)
      have HCC := Lib.hid (HC.out _ (List.getElem_mem kk))
      generalize ls[k] = c at *
      obtain ⟨cn, rfl⟩ := Int.eq_ofNat_of_zero_le HCC.out.1
      have hcn : cn < 64 := by have := HCC.out.2; omega
      have HF := Lib.hid hF
      clear hF hk
      go_wp2_with fail
      go_roundw
      case rel => exact ⟨k + 1, by go_num, by omega, HF.out.step hlt (by rw [← HE.out, HBV.out, bit_test cn p hcn HP6.out]; rfl)⟩
      case measure => simp [intOf]; omega
    · have d1 : decide (k < n) = false := by simp; omega
      have hkn : k = n := by omega
      subst hkn
      have HF := Lib.hid hF
      clear hF hk
      go_wp2_with fail
      go_ret
      exact blp_ret (HF.out.done HTL.out) HTL.out HF.out.blw
end Go.Proofs.YtkddaobbjfnckaaGreatDoor
