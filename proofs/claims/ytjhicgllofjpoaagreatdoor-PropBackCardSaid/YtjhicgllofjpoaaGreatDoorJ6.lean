/-
  Same of formulas, walked.
-/
import Derived.Test.YtjhicgllofjpoaaGreatDoorJ2
import Derived.Deep.LoopGhost
namespace Go.Proofs.YtjhicgllofjpoaaGreatDoor
open Go.RowKit

theorem ret_boolF {a b : Bool} (h : a = b) : Ending.returned (.bool a) = .returned (.bool b) := by rw [h]
/-- What Same tells of an expression and any other. -/
def SCF (a : Fo) : Prop := ∀ (b : Fo) (w : World) (S T : Nat → Prop) (ca cb : List Value), FS w 25 S a ca → FS w 25 T b cb → Calls Tryz.prog 23 #[.agg ca.toArray, .agg cb.toArray] w fun e w' => e = .returned (.bool (decide (a.bare = b.bare))) ∧ Below w.heap.size w w'
def SamePF (v : Bool) (w : World) (e : Ending) (w' : World) : Prop := e = .returned (.bool v) ∧ Below w.heap.size w w'
def EqRelF (ka kb : List Fo) (w : World) (i : Value) (wr : World) : Prop := ∃ k : Nat, i = .int .i64 (k : Int) ∧ k ≤ ka.length ∧ (ka.take k).map Fo.bare = (kb.take k).map Fo.bare ∧ Below w.heap.size w wr
theorem take_moreF {ka kb : List Fo} {k : Nat} (h1 : k < ka.length) (h2 : k < kb.length) (h : (ka.take k).map Fo.bare = (kb.take k).map Fo.bare) (he : ka[k].bare = kb[k].bare) : (ka.take (k + 1)).map Fo.bare = (kb.take (k + 1)).map Fo.bare := by
  rw [List.take_succ_eq_append_getElem h1, List.take_succ_eq_append_getElem h2, List.map_append, List.map_append, h]
  simp [he]
theorem map_neF {ka kb : List Fo} {k : Nat} (h1 : k < ka.length) (h2 : k < kb.length) (he : ka[k].bare ≠ kb[k].bare) : ka.map Fo.bare ≠ kb.map Fo.bare := by
  intro h
  apply he
  have e : (ka.map Fo.bare)[k]? = (kb.map Fo.bare)[k]? := by rw [h]
  simpa [h1, h2] using e
set_option maxHeartbeats 2000000 in
theorem eqfp_any {ka kb : List Fo} (ih : ∀ x ∈ ka, SCF x) {A B : Option Addr} {c1 c2 : Nat} {S T : Nat → Prop} (w : World) (hA : FK w 25 S A ka) (hB : FK w 25 T B kb) (hl : ka.length ≤ 3) :
    Calls Tryz.prog 42 #[.slice A ka.length c1, .slice B kb.length c2, .func (.func 23) #[] #[]] w (SamePF (decide (ka.map Fo.bare = kb.map Fo.bare)) w) := by
  by_cases hlen : ka.length = kb.length
  · have g1 : ((ka.length : Int) != (ka.length : Int)) = false := by simp
    rw [← hlen]
    have HL := Lib.hid hlen
    have HA := Lib.hid hA
    have HB := Lib.hid hB
    have HI := Lib.hid ih
    obtain ⟨n, hn⟩ : ∃ n, n = ka.length := ⟨_, rfl⟩
    rw [← hn] at hl g1 ⊢
    have HN := Lib.hid hn
    clear hlen hA hB ih hn
    go_enter Tryz.func42, Tryz.ntmps42
    go_wp2
    go_loopw [17] (fun i wr => EqRelF ka kb w i wr) (fun i _ => n - (intOf i).toNat)
    case atStart => exact ⟨0, rfl, Nat.zero_le _, rfl, Below.refl _ _⟩
    case round =>
      obtain ⟨k, rfl, hk, ht, hb⟩ := hrel
      by_cases hlt : k < n
      · have g2 : decide ((k : Int) < (n : Int)) = true := by simp; omega
        have k1 : k < ka.length := by rw [← HN.out]; exact hlt
        have k2 : k < kb.length := by rw [← HL.out]; exact k1
        obtain ⟨g, ⟨o, nm, P, l, cp, p⟩, rfl, hg, hH, a0, a1, a2, a3⟩ := HA.out.below hb k k1
        obtain ⟨g', ⟨o', nm', P', l', cp', p'⟩, rfl, hg', hH', d0, d1, d2, d3⟩ := HB.out.below hb k k2
        have H1 := Lib.hid (HI.out _ (List.getElem_mem k1))
        have HH := Lib.hid hH
        have HH' := Lib.hid hH'
        have HT := Lib.hid ht
        have HBb := Lib.hid hb
        clear hH hH' ht hb hk
        go_wp2_with fail
        refine (H1.out _ _ _ _ _ _ ((HH.out.alloc _).alloc _) ((HH'.out.alloc _).alloc _)).mono ?_
        rintro e w3 ⟨rfl, hb3⟩
        have HB3 := Lib.hid (HBb.out.trans ((((Below.refl _ _).alloc (Nat.le_refl _) _).alloc (by simp) _ |>.trans (hb3.mono (by simp; omega))).mono HBb.out.size))
        clear hb3
        by_cases he : ka[k].bare = kb[k].bare
        · have HR := Lib.hid (take_moreF k1 k2 HT.out he)
          rw [decide_eq_true he]
          clear he
          go_wp2
          go_roundw
          case rel => exact ⟨k + 1, by go_num, by omega, HR.out, HB3.out⟩
          case measure => simp [intOf]; omega
        · have HR := Lib.hid (map_neF k1 k2 he)
          rw [decide_eq_false he]
          clear he
          go_wp2
          go_ret
          exact ⟨ret_boolF (decide_eq_false HR.out).symm, HB3.out⟩
      · have g2 : decide ((k : Int) < (n : Int)) = false := by simp; omega
        have hkn : k = n := by have := HN.out; omega
        have HR := Lib.hid (show ka.map Fo.bare = kb.map Fo.bare by
          have h1 : ka.take k = ka := List.take_of_length_le (by rw [← HN.out]; omega)
          have h2 : kb.take k = kb := List.take_of_length_le (by rw [← HL.out, ← HN.out]; omega)
          rw [h1, h2] at ht; exact ht)
        have HBb := Lib.hid hb
        clear ht hb hk hkn
        go_wp2
        go_ret
        exact ⟨ret_boolF (decide_eq_true HR.out).symm, HBb.out⟩
  · have g1 : ((ka.length : Int) != (kb.length : Int)) = true := by rw [bne_iff_ne]; omega
    have HR := Lib.hid (show ka.map Fo.bare ≠ kb.map Fo.bare from fun h => hlen (by simpa using congrArg List.length h))
    clear hlen hA hB ih
    go_enter Tryz.func42, Tryz.ntmps42
    go_wp2
    go_ret
    exact ⟨ret_boolF (decide_eq_false HR.out).symm, Below.refl _ _⟩
theorem fkids_three (x : Fo) : x.kids.length ≤ 3 := by cases x <;> simp [Fo.kids]
theorem bytes_eqF (a b : List UInt8) : ((⟨a.toArray⟩ : ByteArray).toList == (⟨b.toArray⟩ : ByteArray).toList) = decide (a = b) := by
  rw [ByteArray.toList_eq, ByteArray.toList_eq]
  simp [Bool.beq_eq_decide_eq]
set_option maxHeartbeats 2000000 in
theorem fsame_step {a b : Fo} {oa na ob nb : ByteArray} {pa pb : Int} {A B : Option Addr} {la ka lb kb : Nat} (w : World) (h1 : (oa.toList == ob.toList) = decide (a.op = b.op)) (h2 : (na.toList == nb.toList) = decide (a.nm = b.nm))
    (H : ∀ W, Below w.heap.size w W → Calls Tryz.prog 42 #[.slice A la ka, .slice B lb kb, .func (.func 23) #[] #[]] W (SamePF (decide (a.kids.map Fo.bare = b.kids.map Fo.bare)) W)) :
    Calls Tryz.prog 23 #[.agg #[.string oa, .string na, .slice A la ka, .int .i64 pa], .agg #[.string ob, .string nb, .slice B lb kb, .int .i64 pb]] w (SamePF (decide (a.bare = b.bare)) w) := by
  have HQ := Lib.hid (fo_bare_eq a b)
  have HH := Lib.hid H
  clear H
  by_cases e1 : a.op = b.op
  · rw [decide_eq_true e1] at h1
    by_cases e2 : a.nm = b.nm
    · rw [decide_eq_true e2] at h2
      have HR := Lib.hid (show decide (a.kids.map Fo.bare = b.kids.map Fo.bare) = decide (a.bare = b.bare) by
        rw [decide_eq_decide, HQ.out]; simp [e1, e2])
      clear e1 e2
      go_enter Tryz.func23, Tryz.ntmps23
      go_wp2_with fail
      refine (HH.out _ (((Below.refl _ _).alloc (Nat.le_refl _) _).alloc (by simp) _)).mono ?_
      rintro e w3 ⟨rfl, hb3⟩
      have HB3 := Lib.hid (((Below.refl w.heap.size w).alloc (Nat.le_refl _) _).alloc (by simp) _ |>.trans (hb3.mono (by simp; omega)))
      clear hb3
      go_wp2
      go_ret
      exact ⟨ret_boolF HR.out, HB3.out⟩
    · rw [decide_eq_false e2] at h2
      have HR := Lib.hid (show a.bare ≠ b.bare from fun h => e2 ((HQ.out.1 h).2.1))
      clear e1 e2
      go_enter Tryz.func23, Tryz.ntmps23
      go_wp2
      go_ret
      exact ⟨ret_boolF (decide_eq_false HR.out).symm, ((Below.refl _ _).alloc (Nat.le_refl _) _).alloc (by simp) _⟩
  · rw [decide_eq_false e1] at h1
    have HR := Lib.hid (show a.bare ≠ b.bare from fun h => e1 ((HQ.out.1 h).1))
    clear e1 h2
    go_enter Tryz.func23, Tryz.ntmps23
    go_wp2
    go_ret
    exact ⟨ret_boolF (decide_eq_false HR.out).symm, ((Below.refl _ _).alloc (Nat.le_refl _) _).alloc (by simp) _⟩
theorem fsame_of {a : Fo} (ih : ∀ x ∈ a.kids, SCF x) : SCF a := by
  intro b w S T ca cb ha hb
  obtain ⟨A, cap, rfl, hA⟩ := ha.view
  obtain ⟨B, cap', rfl, hB⟩ := hb.view
  exact fsame_step w (bytes_eqF _ _) (bytes_eqF _ _) (fun W hW => eqfp_any ih W (hA.below hW) (hB.below hW) (fkids_three a))
theorem fsame_any : ∀ a : Fo, SCF a
  | .leaf _ _ _ => fsame_of (by simp [Fo.kids])
  | .un _ a _ => fsame_of (by simp only [Fo.kids, List.mem_singleton]; rintro x rfl; exact fsame_any x)
  | .bin _ a b _ => fsame_of (by
      have h1 := fsame_any a
      have h2 := fsame_any b
      simp only [Fo.kids, List.mem_cons, List.not_mem_nil, or_false]
      rintro x (rfl | rfl) <;> assumption)
end Go.Proofs.YtjhicgllofjpoaaGreatDoor
