/-
  Labels, Texts and quiet, walked.
-/
import Derived.Test.YtjhicgllofjpoaaGreatDoorJk
import Derived.Test.YtjhicgllofjpoaaGreatDoorH3
import Derived.Test.YtjhicgllofjpoaaGreatDoorQQ
import Derived.WalkSmall
import Derived.BigQuiet
namespace Go.Proofs.YtjhicgllofjpoaaGreatDoor
open Go.RowKit Go.Maps Go.Sort Go.WideMaps Go.Shelf

def LbQ (w : World) (l : List (List UInt8)) (e : Ending) (w' : World) : Prop := ∃ v, e = .returned v ∧ w'.ownsRow w.heap.size 9 1 v l.length (l.map encStr) ∧ l.Pairwise (fun x y => x < y) ∧ l.length ≤ 100000 ∧ Below w.heap.size w w'
theorem strKeys_len (D : DataW Unit) : (strKeys D).length ≤ Maps.size D := by cases D <;> simp [strKeys, Maps.size]
set_option maxHeartbeats 2000000 in
set_option maxRecDepth 100000 in
theorem plabels_any {x : Fo} {c : List Value} {S : Nat → Prop} (w : World) (ho : OkF x) (hz : x.size ≤ 100000) (h : FS w 25 S x c) : Calls Tryz.prog 18 #[.agg c.toArray] w (LbQ w (lbK (lbs x))) := by
  obtain ⟨A, cap, rfl, hA⟩ := h.view
  have HH := Lib.hid h
  have HO := Lib.hid ho
  have HZ := Lib.hid (show (lbs x).length ≤ 100000 from Nat.le_trans (lbs_len x) hz)
  have hmm := @run_makeMap Tryz.prog
  clear h ho hz hA
  show Calls Tryz.prog 18 #[.agg #[.string ⟨x.op.toArray⟩, .string ⟨x.nm.toArray⟩, .slice A x.kids.length cap, .int .i64 (x.pos : Int)]] w _
  go_enter Tryz.func18, Tryz.ntmps18
  go_wp2_with fail
  refine calls_gen (P := fun W => FS W 25 S x (FV.c ⟨⟨x.op.toArray⟩, ⟨x.nm.toArray⟩, A, x.kids.length, cap, (x.pos : Int)⟩) ∧ OM W (w.heap.size + 1) 0 (lbD []) ∧ Below w.heap.size w W) ⟨(HH.out.alloc _).alloc _, by simpa [OM, lbD_nil] using World.ownsMap_made (w.alloc (.cells #[.string ⟨x.op.toArray⟩, .string ⟨x.nm.toArray⟩, .slice A x.kids.length cap, .int .i64 (x.pos : Int)] 25)) Tryz.prog 9 (unitElem (H := Unit)), ((Below.refl _ _).alloc (Nat.le_refl _) _).alloc (by simp) _⟩ ?_
  rintro W ⟨hH, hM, hB⟩
  refine (gather_any HO.out W S _ _ _ [] hH hM (by have := HZ.out; omega)).mono ?_
  rintro e w3 ⟨rfl, hown, hg⟩
  rw [List.nil_append, Nat.zero_add] at hown
  have HN := Lib.hid hown
  have HB := Lib.hid (hB.grown hg hB.size (fun k hk => by injection hk with hk; omega))
  clear hH hM hB hown hg
  go_wp2_with fail
  refine (callsIn_wide.1 (Tryz.maps_Keys_36 _ _)).mono ?_
  rintro e w4 ⟨rfl, rfl⟩
  go_wp2_with fail
  refine (callsIn_wide.1 (Tryz.slices_Sorted_keys_35_36 _ _ _ _ w3 HN.out (Nat.le_trans HN.out.size_le (by have := HZ.out; unfold maxLen; omega)) (by have := HN.out.size_le; have := HZ.out; omega))).mono ?_
  rintro e w5 ⟨v, ss, rfl, hS, hrow, hnil, hb⟩
  have HR := Lib.hid (show w5.ownsRow w.heap.size 9 1 v (lbK (lbs x)).length ((lbK (lbs x)).map encStr) by
    rw [← lbK_perm hS, List.length_mergeSort]
    exact ownsRow_base_a hrow (by have := HB.out.size; simp; omega))
  have HLN := Lib.hid (show (lbK (lbs x)).length ≤ 100000 by
    rw [← lbK_len hS, hS.length_eq]
    exact Nat.le_trans (strKeys_len _) (Nat.le_trans HN.out.size_le HZ.out))
  have HF := Lib.hid (show Below w.heap.size w w5 from (HB.out.alloc HB.out.size _).trans (hb.mono (by have := HB.out.size; simp; omega)))
  clear hrow hnil hb hS
  go_wp2
  go_ret
  exact ⟨v, rfl, HR.out, lbK_asc HN.out (string_keyed Tryz.underlying9) Tryz.underlying9, HLN.out, HF.out⟩
/-- A slice's cells read as texts. -/
def RS (w : World) (A : Option Addr) (l : List (List UInt8)) : Prop := ∀ i (h : i < l.length), ∃ g, A = some ⟨g, 0, none⟩ ∧ g < w.heap.size ∧ w.cell? ⟨g, i, none⟩ = some (strV l[i])
theorem rs_row {w : World} {base : Nat} {v : Value} {l : List (List UInt8)} (h : w.ownsRow base 9 1 v l.length (l.map encStr)) : ∃ A cap, v = .slice A l.length cap ∧ RS w A l := by
  rcases h.2 with ⟨rfl, hn⟩ | ⟨g, cap, cur, hv, _, hb, _⟩
  · exact ⟨none, 0, by rw [hn], fun i hi => absurd hi (by omega)⟩
  · subst hv
    refine ⟨_, cap, rfl, fun i hi => ⟨g, rfl, (Array.getElem?_eq_some_iff.1 hb).1, ?_⟩⟩
    have h1 := h.cells (g := g) rfl i (strV l[i]) (by rw [List.getElem?_map, List.getElem?_eq_getElem hi]; simp [encStr, strV])
    have e : (⟨g, 0, none⟩ : Addr).add i = ⟨g, i, none⟩ := by
      unfold Addr.add
      by_cases hj : i = 0 <;> simp [hj]
    rw [e] at h1
    exact h1
theorem RS.below {w w' : World} {A : Option Addr} {l : List (List UInt8)} (h : RS w A l) (hb : Below w.heap.size w w') : RS w' A l := by
  intro i hi
  obtain ⟨g, h1, h2, h3⟩ := h i hi
  exact ⟨g, h1, Nat.lt_of_lt_of_le h2 hb.size, (hb.cell (p := ⟨g, i, none⟩) h2).trans h3⟩
theorem RS.drewN {w : World} {A : Option Addr} {l : List (List UInt8)} (h : RS w A l) (n : Nat) : RS (w.drewN n) A l := h.below (below_drewN (Below.refl _ _) n)
def TxRel (la lb : List (List UInt8)) (w : World) (i : Value) (wr : World) : Prop := ∃ k : Nat, i = .int .i64 (k : Int) ∧ k ≤ la.length ∧ la.take k = lb.take k ∧ Below w.heap.size w wr
theorem bytes_neF (a b : List UInt8) : ((⟨a.toArray⟩ : ByteArray).toList != (⟨b.toArray⟩ : ByteArray).toList) = decide (a ≠ b) := by
  rw [ByteArray.toList_eq, ByteArray.toList_eq]
  by_cases h : a = b <;> simp [h]
set_option maxHeartbeats 2000000 in
theorem ptexts_any {la lb : List (List UInt8)} {A B : Option Addr} {c1 c2 : Nat} (w : World) (hA : RS w A la) (hB : RS w B lb) (hl : la.length ≤ 200000) :
    Calls Tryz.prog 17 #[.slice A la.length c1, .slice B lb.length c2] w (SamePF (decide (la = lb)) w) := by
  by_cases hlen : la.length = lb.length
  · have g1 : ((la.length : Int) != (la.length : Int)) = false := by simp
    rw [← hlen]
    have HL := Lib.hid hlen
    have HA := Lib.hid hA
    have HB := Lib.hid hB
    obtain ⟨n, hn⟩ : ∃ n, n = la.length := ⟨_, rfl⟩
    rw [← hn] at hl g1 ⊢
    have HN := Lib.hid hn
    clear hlen hA hB hn
    go_enter Tryz.func17, Tryz.ntmps17
    go_wp2
    go_loopw [5] (fun i wr => TxRel la lb w i wr) (fun i _ => n - (intOf i).toNat)
    case atStart => exact ⟨0, rfl, Nat.zero_le _, rfl, Below.refl _ _⟩
    case round =>
      obtain ⟨k, rfl, hk, ht, hb⟩ := hrel
      by_cases hlt : k < n
      · have g2 : decide ((k : Int) < (n : Int)) = true := by simp; omega
        have k1 : k < la.length := by rw [← HN.out]; exact hlt
        have k2 : k < lb.length := by rw [← HL.out]; exact k1
        obtain ⟨g, rfl, hg, a0⟩ := HA.out.below hb k k1
        obtain ⟨g', rfl, hg', d0⟩ := HB.out.below hb k k2
        unfold strV at a0 d0
        have HT := Lib.hid ht
        have HBb := Lib.hid hb
        obtain ⟨o, hoo⟩ : ∃ o, o = (⟨la[k].toArray⟩ : ByteArray) := ⟨_, rfl⟩
        obtain ⟨o', hoo'⟩ : ∃ o', o' = (⟨lb[k].toArray⟩ : ByteArray) := ⟨_, rfl⟩
        have q := bytes_eqF la[k] lb[k]
        rw [← hoo] at a0 q
        rw [← hoo'] at d0 q
        clear hoo hoo'
        clear ht hb hk
        by_cases he : la[k] = lb[k]
        · have HR := Lib.hid (show la.take (k + 1) = lb.take (k + 1) by rw [List.take_succ_eq_append_getElem k1, List.take_succ_eq_append_getElem k2, HT.out, he])
          rw [decide_eq_true he] at q
          clear he
          go_wp2_with fail
          go_quiet (fail)
          go_wp2
          go_roundw
          case rel => exact ⟨k + 1, by go_num, by omega, HR.out, below_drewN HBb.out _⟩
          case measure => simp [intOf]; omega
        · have HR := Lib.hid (show la ≠ lb from fun e => he (by subst e; rfl))
          rw [decide_eq_false he] at q
          clear he
          go_wp2_with fail
          go_quiet (fail)
          go_wp2
          go_ret
          exact ⟨ret_boolF (decide_eq_false HR.out).symm, below_drewN HBb.out _⟩
      · have g2 : decide ((k : Int) < (n : Int)) = false := by simp; omega
        have hkn : k = n := by have := HN.out; omega
        have HR := Lib.hid (show la = lb by
          have h1 : la.take k = la := List.take_of_length_le (by rw [← HN.out]; omega)
          have h2 : lb.take k = lb := List.take_of_length_le (by rw [← HL.out, ← HN.out]; omega)
          rw [h1, h2] at ht; exact ht)
        have HBb := Lib.hid hb
        clear ht hb hk hkn
        go_wp2
        go_ret
        exact ⟨ret_boolF (decide_eq_true HR.out).symm, HBb.out⟩
  · have g1 : ((la.length : Int) != (lb.length : Int)) = true := by rw [bne_iff_ne]; omega
    have HR := Lib.hid (show la ≠ lb from fun h => hlen (by rw [h]))
    clear hlen hA hB
    go_enter Tryz.func17, Tryz.ntmps17
    go_wp2
    go_ret
    exact ⟨ret_boolF (decide_eq_false HR.out).symm, Below.refl _ _⟩
end Go.Proofs.YtjhicgllofjpoaaGreatDoor
