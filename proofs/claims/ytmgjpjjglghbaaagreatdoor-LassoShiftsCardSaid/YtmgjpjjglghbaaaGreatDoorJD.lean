/-
  Same of formulas, walked. A formula's labels as a set, and in order. Labels: the set filled, walked. Labels, Texts and quiet, walked. alive, walked.
-/
import Derived.Test.YtmgjpjjglghbaaaGreatDoorJB
import Derived.Deep.LoopGhost
import Derived.Test.YtmgjpjjglghbaaaGreatDoorJA
import Derived.Sort.KeysCollected
import Derived.Maps.OwnSet
import Derived.Test.YtmgjpjjglghbaaaGreatDoorLB
import Derived.Maps.Own
import Derived.WalkKit
import Derived.Test.YtmgjpjjglghbaaaGreatDoorH3
import Derived.Test.YtmgjpjjglghbaaaGreatDoorQQ
import Derived.WalkSmall
import Derived.BigQuiet
import Derived.Test.YtmgjpjjglghbaaaGreatDoorJC
import Derived.Test.YtmgjpjjglghbaaaGreatDoorLC
namespace Go.Proofs.YtmgjpjjglghbaaaGreatDoor
section
open Go.RowKit

theorem ret_boolF {a b : Bool} (h : a = b) : Ending.returned (.bool a) = .returned (.bool b) := by rw [h]
/-- What Same tells of an expression and any other. -/
def SCF (a : Fo) : Prop := ∀ (b : Fo) (w : World) (S T : Nat → Prop) (ca cb : List Value), FS w 27 S a ca → FS w 27 T b cb → Calls Tryz.prog 39 #[.agg ca.toArray, .agg cb.toArray] w fun e w' => e = .returned (.bool (decide (a.bare = b.bare))) ∧ Below w.heap.size w w'
def SamePF (v : Bool) (w : World) (e : Ending) (w' : World) : Prop := e = .returned (.bool v) ∧ Below w.heap.size w w'
def EqRelF (ka kb : List Fo) (w : World) (i : Value) (wr : World) : Prop := ∃ k : Nat, i = .int .i64 (k : Int) ∧ k ≤ ka.length ∧ (ka.take k).map Fo.bare = (kb.take k).map Fo.bare ∧ Below w.heap.size w wr
theorem take_moreF {ka kb : List Fo} {k : Nat} (h1 : k < ka.length) (h2 : k < kb.length) (h : (ka.take k).map Fo.bare = (kb.take k).map Fo.bare) (he : ka[k].bare = kb[k].bare) : (ka.take (k + 1)).map Fo.bare = (kb.take (k + 1)).map Fo.bare := by
  rw [List.take_succ_eq_append_getElem h1, List.take_succ_eq_append_getElem h2, List.map_append, List.map_append, h]
  simp [he]
theorem map_neF {ka kb : List Fo} {k : Nat} (h1 : k < ka.length) (h2 : k < kb.length) (he : ka[k].bare ≠ kb[k].bare) : ka.map Fo.bare ≠ kb.map Fo.bare := by
  intro h
  apply he
  have e : (ka.map Fo.bare)[k]? = (kb.map Fo.bare)[k]? := by rw [h]
  simpa [h1, h2] using e
set_option maxHeartbeats 2000000 in
theorem eqfp_any {ka kb : List Fo} (ih : ∀ x ∈ ka, SCF x) {A B : Option Addr} {c1 c2 : Nat} {S T : Nat → Prop} (w : World) (hA : FK w 27 S A ka) (hB : FK w 27 T B kb) (hl : ka.length ≤ 3) :
    Calls Tryz.prog 62 #[.slice A ka.length c1, .slice B kb.length c2, .func (.func 39) #[] #[]] w (SamePF (decide (ka.map Fo.bare = kb.map Fo.bare)) w) := by
  by_cases hlen : ka.length = kb.length
  · have g1 : ((ka.length : Int) != (ka.length : Int)) = false := by simp
    rw [← hlen]
    have HL := Lib.hid hlen
    have HA := Lib.hid hA
    have HB := Lib.hid hB
    have HI := Lib.hid ih
    obtain ⟨n, hn⟩ : ∃ n, n = ka.length := ⟨_, rfl⟩
    rw [← hn] at hl g1 ⊢
    have HN := Lib.hid hn
    clear hlen hA hB ih hn
    go_enter Tryz.func62, Tryz.ntmps62
    go_wp2
    go_loopw [17] (fun i wr => EqRelF ka kb w i wr) (fun i _ => n - (intOf i).toNat)
    case atStart => exact ⟨0, rfl, Nat.zero_le _, rfl, Below.refl _ _⟩
    case round =>
      obtain ⟨k, rfl, hk, ht, hb⟩ := hrel
      by_cases hlt : k < n
      · have g2 : decide ((k : Int) < (n : Int)) = true := by simp; omega
        have k1 : k < ka.length := by rw [← HN.out]; exact hlt
        have k2 : k < kb.length := by rw [← HL.out]; exact k1
        obtain ⟨g, ⟨o, nm, P, l, cp, p⟩, rfl, hg, hH, a0, a1, a2, a3⟩ := HA.out.below hb k k1
        obtain ⟨g', ⟨o', nm', P', l', cp', p'⟩, rfl, hg', hH', d0, d1, d2, d3⟩ := HB.out.below hb k k2
        have H1 := Lib.hid (HI.out _ (List.getElem_mem k1))
        have HH := Lib.hid hH
        have HH' := Lib.hid hH'
        have HT := Lib.hid ht
        have HBb := Lib.hid hb
        clear hH hH' ht hb hk
        go_wp2_with fail
        refine (H1.out _ _ _ _ _ _ ((HH.out.alloc _).alloc _) ((HH'.out.alloc _).alloc _)).mono ?_
        rintro e w3 ⟨rfl, hb3⟩
        have HB3 := Lib.hid (HBb.out.trans ((((Below.refl _ _).alloc (Nat.le_refl _) _).alloc (by simp) _ |>.trans (hb3.mono (by simp; omega))).mono HBb.out.size))
        clear hb3
        by_cases he : ka[k].bare = kb[k].bare
        · have HR := Lib.hid (take_moreF k1 k2 HT.out he)
          rw [decide_eq_true he]
          clear he
          go_wp2
          go_roundw
          case rel => exact ⟨k + 1, by go_num, by omega, HR.out, HB3.out⟩
          case measure => simp [intOf]; omega
        · have HR := Lib.hid (map_neF k1 k2 he)
          rw [decide_eq_false he]
          clear he
          go_wp2
          go_ret
          exact ⟨ret_boolF (decide_eq_false HR.out).symm, HB3.out⟩
      · have g2 : decide ((k : Int) < (n : Int)) = false := by simp; omega
        have hkn : k = n := by have := HN.out; omega
        have HR := Lib.hid (show ka.map Fo.bare = kb.map Fo.bare by
          have h1 : ka.take k = ka := List.take_of_length_le (by rw [← HN.out]; omega)
          have h2 : kb.take k = kb := List.take_of_length_le (by rw [← HL.out, ← HN.out]; omega)
          rw [h1, h2] at ht; exact ht)
        have HBb := Lib.hid hb
        clear ht hb hk hkn
        go_wp2
        go_ret
        exact ⟨ret_boolF (decide_eq_true HR.out).symm, HBb.out⟩
  · have g1 : ((ka.length : Int) != (kb.length : Int)) = true := by rw [bne_iff_ne]; omega
    have HR := Lib.hid (show ka.map Fo.bare ≠ kb.map Fo.bare from fun h => hlen (by simpa using congrArg List.length h))
    clear hlen hA hB ih
    go_enter Tryz.func62, Tryz.ntmps62
    go_wp2
    go_ret
    exact ⟨ret_boolF (decide_eq_false HR.out).symm, Below.refl _ _⟩
theorem fkids_three (x : Fo) : x.kids.length ≤ 3 := by cases x <;> simp [Fo.kids]
theorem bytes_eqF (a b : List UInt8) : ((⟨a.toArray⟩ : ByteArray).toList == (⟨b.toArray⟩ : ByteArray).toList) = decide (a = b) := by
  rw [ByteArray.toList_eq, ByteArray.toList_eq]
  simp [Bool.beq_eq_decide_eq]
set_option maxHeartbeats 2000000 in
theorem fsame_step {a b : Fo} {oa na ob nb : ByteArray} {pa pb : Int} {A B : Option Addr} {la ka lb kb : Nat} (w : World) (h1 : (oa.toList == ob.toList) = decide (a.op = b.op)) (h2 : (na.toList == nb.toList) = decide (a.nm = b.nm))
    (H : ∀ W, Below w.heap.size w W → Calls Tryz.prog 62 #[.slice A la ka, .slice B lb kb, .func (.func 39) #[] #[]] W (SamePF (decide (a.kids.map Fo.bare = b.kids.map Fo.bare)) W)) :
    Calls Tryz.prog 39 #[.agg #[.string oa, .string na, .slice A la ka, .int .i64 pa], .agg #[.string ob, .string nb, .slice B lb kb, .int .i64 pb]] w (SamePF (decide (a.bare = b.bare)) w) := by
  have HQ := Lib.hid (fo_bare_eq a b)
  have HH := Lib.hid H
  clear H
  by_cases e1 : a.op = b.op
  · rw [decide_eq_true e1] at h1
    by_cases e2 : a.nm = b.nm
    · rw [decide_eq_true e2] at h2
      have HR := Lib.hid (show decide (a.kids.map Fo.bare = b.kids.map Fo.bare) = decide (a.bare = b.bare) by
        rw [decide_eq_decide, HQ.out]; simp [e1, e2])
      clear e1 e2
      go_enter Tryz.func39, Tryz.ntmps39
      go_wp2_with fail
      refine (HH.out _ (((Below.refl _ _).alloc (Nat.le_refl _) _).alloc (by simp) _)).mono ?_
      rintro e w3 ⟨rfl, hb3⟩
      have HB3 := Lib.hid (((Below.refl w.heap.size w).alloc (Nat.le_refl _) _).alloc (by simp) _ |>.trans (hb3.mono (by simp; omega)))
      clear hb3
      go_wp2
      go_ret
      exact ⟨ret_boolF HR.out, HB3.out⟩
    · rw [decide_eq_false e2] at h2
      have HR := Lib.hid (show a.bare ≠ b.bare from fun h => e2 ((HQ.out.1 h).2.1))
      clear e1 e2
      go_enter Tryz.func39, Tryz.ntmps39
      go_wp2
      go_ret
      exact ⟨ret_boolF (decide_eq_false HR.out).symm, ((Below.refl _ _).alloc (Nat.le_refl _) _).alloc (by simp) _⟩
  · rw [decide_eq_false e1] at h1
    have HR := Lib.hid (show a.bare ≠ b.bare from fun h => e1 ((HQ.out.1 h).1))
    clear e1 h2
    go_enter Tryz.func39, Tryz.ntmps39
    go_wp2
    go_ret
    exact ⟨ret_boolF (decide_eq_false HR.out).symm, ((Below.refl _ _).alloc (Nat.le_refl _) _).alloc (by simp) _⟩
theorem fsame_of {a : Fo} (ih : ∀ x ∈ a.kids, SCF x) : SCF a := by
  intro b w S T ca cb ha hb
  obtain ⟨A, cap, rfl, hA⟩ := ha.view
  obtain ⟨B, cap', rfl, hB⟩ := hb.view
  exact fsame_step w (bytes_eqF _ _) (bytes_eqF _ _) (fun W hW => eqfp_any ih W (hA.below hW) (hB.below hW) (fkids_three a))
theorem fsame_any : ∀ a : Fo, SCF a
  | .leaf _ _ _ => fsame_of (by simp [Fo.kids])
  | .un _ a _ => fsame_of (by simp only [Fo.kids, List.mem_singleton]; rintro x rfl; exact fsame_any x)
  | .bin _ a b _ => fsame_of (by
      have h1 := fsame_any a
      have h2 := fsame_any b
      simp only [Fo.kids, List.mem_cons, List.not_mem_nil, or_false]
      rintro x (rfl | rfl) <;> assumption)
end
section
open Go.RowKit Go.Maps Go.Sort

/-- Texts as a set. -/
def lbD (l : List (List UInt8)) : DataW Unit := setOf (.agg []) (l.map Lit.string)
theorem lbD_nil : lbD [] = .map [] := rfl
theorem lbD_snoc (l : List (List UInt8)) (x : List UInt8) : lbD (l ++ [x]) = (lbD l).put (.string x) (.agg []) := by
  unfold lbD
  rw [List.map_append, List.map_cons, List.map_nil, setOf_snoc]
/-- .. and in order. -/
def lbK (l : List (List UInt8)) : List (List UInt8) := (strKeys (lbD l)).mergeSort (fun x y => decide (x ≤ y))
theorem lbK_perm {l ss : List (List UInt8)} (h : ss.Perm (strKeys (lbD l))) : ss.mergeSort (fun x y => decide (x ≤ y)) = lbK l := mergeSort_of_perm h
theorem lbK_len {l ss : List (List UInt8)} (h : ss.Perm (strKeys (lbD l))) : ss.length = (lbK l).length := by
  rw [h.length_eq, lbK, List.length_mergeSort]
theorem lbK_asc {P : Program} {k : TypeId} {R : Value → Option (DataW Unit × List MemPlace)} {w : World} {b n : Nat} {l : List (List UInt8)} (hown : w.ownsMap P k R b n (lbD l)) (K : Keyed P k) (hk : P.underlying k = some .string) : (lbK l).Pairwise (fun x y => x < y) := by
  obtain ⟨es, he, hkeys⟩ := hown.keysOf
  obtain ⟨es', he', hp⟩ := hown.tidy K
  have e0 : es' = es := by rw [he] at he'; injection he' with h; exact h.symm
  subst e0
  have hstr : ∀ p ∈ es', ∃ x : List UInt8, p.1 = .string x := by
    intro p hp'
    obtain ⟨key, hkey⟩ := hkeys p hp'
    obtain ⟨x, _, h2, _⟩ := keyOf_str hk hkey
    exact ⟨x, h2⟩
  have hnd : (strKeys (lbD l)).Nodup := by
    rw [he]
    show (es'.map fun p => strOf p.1).Nodup
    refine List.pairwise_map.2 (hp.imp_of_mem fun {p q} hp' hq' hne e => hne ?_)
    obtain ⟨a, ha⟩ := hstr p hp'
    obtain ⟨b, hb⟩ := hstr q hq'
    rw [ha, hb] at e ⊢
    exact congrArg _ e
  have tr : ∀ a b c : List UInt8, decide (a ≤ b) = true → decide (b ≤ c) = true → decide (a ≤ c) = true := fun a b c h1 h2 => by simp only [decide_eq_true_eq] at *; exact List.le_trans h1 h2
  have to : ∀ a b : List UInt8, (decide (a ≤ b) || decide (b ≤ a)) = true := fun a b => by simp only [Bool.or_eq_true, decide_eq_true_eq]; exact List.le_total a b
  have h1 : (lbK l).Pairwise (fun x y => decide (x ≤ y) = true) := List.pairwise_mergeSort tr to _
  have h2 : (lbK l).Nodup := (List.mergeSort_perm (strKeys (lbD l)) (fun x y => decide (x ≤ y))).nodup_iff.2 hnd
  refine (h1.and h2).imp fun {a b} h => ?_
  have h3 : a ≤ b := by simpa using h.1
  rcases Classical.em (a < b) with h4 | h4
  · exact h4
  · exact absurd (List.le_antisymm h3 (List.not_lt.1 h4)) h.2
theorem lbs_ab : lbK [[97], [98]] = [[97], [98]] := by
  have e : strKeys (lbD [[97], [98]]) = [[97], [98]] := rfl
  unfold lbK
  rw [e]
  exact List.mergeSort_of_pairwise (by decide)
end
section
open Go.RowKit Go.Maps Go.Sort Go.WideMaps

theorem FS.grown {w w' : World} {P : Program} {ky : TypeId} {R : Value → Option (DataW Unit × List MemPlace)} {mb n : Nat} {D : DataW Unit} (hm : w.ownsMap P ky R mb n D) (hg : w.grownBy w' (some mb)) {e : TypeId} {S : Nat → Prop} {x : Fo} {c : List Value} (h : FS w e S x c) : FS w' e S x c :=
  h.keepY fun k _ _ h1 => hg.block k (blk_lt h1) (by
    intro e
    obtain ⟨es, clock, hb, _⟩ := hm
    injection e with e
    subst e
    rw [hb] at h1
    cases h1)
theorem FK.grown {w w' : World} {P : Program} {ky : TypeId} {R : Value → Option (DataW Unit × List MemPlace)} {mb n : Nat} {D : DataW Unit} (hm : w.ownsMap P ky R mb n D) (hg : w.grownBy w' (some mb)) {e : TypeId} {S : Nat → Prop} {A : Option Addr} {ks : List Fo} (h : FK w e S A ks) : FK w' e S A ks := by
  intro i hi
  obtain ⟨g, v, h1, h2, h3, c0, c1, c2, c3⟩ := h i hi
  have hne : some g ≠ some mb := by
    intro e
    obtain ⟨es, clock, hb, _⟩ := hm
    injection e with e
    subst e
    simp [World.cell?, hb] at c0
  have hc : ∀ j, w'.cell? ⟨g, j, none⟩ = w.cell? ⟨g, j, none⟩ := fun j => World.cell?_of_block (a := ⟨g, j, none⟩) (hg.block g h2 hne)
  exact ⟨g, v, h1, Nat.lt_of_lt_of_le h2 hg.size, h3.grown hm hg, (hc _).trans c0, (hc _).trans c1, (hc _).trans c2, (hc _).trans c3⟩
theorem World.grownBy.ofBelow {w w' : World} (h : Below w.heap.size w w') (r : Option Nat) : w.grownBy w' r := ⟨h.os, h.tape, h.output, h.size, fun k hk _ => h.block k hk⟩
abbrev OM (w : World) (mb n : Nat) (D : DataW Unit) : Prop := w.ownsMap Tryz.prog 9 (unitElem (H := Unit)) mb n D
theorem om_below {w w' : World} {mb n : Nat} {D : DataW Unit} (h : OM w mb n D) (hb : Below w.heap.size w w') : OM w' mb n D := World.ownsMap.kept h (World.grownBy.ofBelow hb none) (by simp)
theorem grown_tr {a b c : World} {r : Option Nat} (h : a.grownBy b r) (k : b.grownBy c r) : a.grownBy c r :=
  ⟨k.os.trans h.os, k.tape.trans h.tape, k.output.trans h.output, Nat.le_trans h.size k.size, fun i hi hn => (k.block i (Nat.lt_of_lt_of_le hi h.size) hn).trans (h.block i hi hn)⟩
theorem grown_blw {a b c : World} {r : Option Nat} (h : a.grownBy b r) (k : Below b.heap.size b c) : a.grownBy c r := grown_tr h (World.grownBy.ofBelow k r)
/-- What gathering leaves. -/
def GaQ (mb n : Nat) (acc : List (List UInt8)) (x : Fo) (w : World) (e : Ending) (w' : World) : Prop :=
  e = .returned (.tuple #[]) ∧ OM w' mb (n + (lbs x).length) (lbD (acc ++ lbs x)) ∧ w.grownBy w' (some mb)
def GaC (x : Fo) : Prop := ∀ (w : World) (S : Nat → Prop) (c : List Value) (mb n : Nat) (acc : List (List UInt8)), FS w 27 S x c → OM w mb n (lbD acc) → n + (lbs x).length ≤ 1000000 → Calls Tryz.prog 73 #[.map (some mb), .agg c.toArray] w (GaQ mb n acc x w)
theorem snoc_put (acc : List (List UInt8)) (nm : List UInt8) : (lbD acc).put (.string (⟨nm.toArray⟩ : ByteArray).data.toList) (.agg []) = lbD (acc ++ [nm]) := by
  rw [lbD_snoc]
set_option maxHeartbeats 2000000 in
set_option maxRecDepth 100000 in
theorem gather_lab {nm : List UInt8} {p : Nat} (hn : nm.length ≤ 65536) : GaC (.leaf opLab nm p) := by
  intro w S c mb n acc h hown hsz
  obtain rfl : c = [strV opLab, strV nm, .slice none 0 0, .int .i64 (p : Int)] := h
  have hs0 : (⟨nm.toArray⟩ : ByteArray).size ≤ 65536 := by show nm.toArray.size ≤ 65536; simpa using hn
  have hkey : keyOf Tryz.prog 9 (.string (⟨nm.toArray⟩ : ByteArray)) = some (.string (⟨nm.toArray⟩ : ByteArray).data.toList) := keyOf_string_mk Tryz.underlying9 (by unfold maxLen; omega)
  have HC := Lib.hid (fun W => clone_any ⟨nm.toArray⟩ W hs0)
  have HP := Lib.hid (snoc_put acc nm)
  have HW := Lib.hid hown
  have hL : (lbs (.leaf opLab nm p)) = [nm] := by simp [lbs]
  have HL := Lib.hid hL
  have hlt : n < maxLen := by rw [hL] at hsz; unfold maxLen; simp at hsz; omega
  clear hown hsz hs0 hn hL
  show Calls Tryz.prog 73 #[.map (some mb), .agg #[.string ⟨#[108, 97, 98, 101, 108]⟩, .string ⟨nm.toArray⟩, .slice none 0 0, .int .i64 (p : Int)]] w _
  have hmm := @run_makeMap Tryz.prog
  go_enter Tryz.func73, Tryz.ntmps73
  go_wp2_with fail
  refine (HC.out _).mono ?_
  rintro e w1 ⟨rfl, hb1⟩
  have HM := Lib.hid (om_below (World.ownsMap.alloc HW.out _) hb1)
  have HBX := Lib.hid (fun (w2 : World) (hg : w1.grownBy w2 (some mb)) => show w2.cell? ⟨w.heap.size, 2, none⟩ = some (.slice none 0 0) by
    have hB : Bx w1 w.heap.size 27 [.string ⟨#[108, 97, 98, 101, 108]⟩, .string ⟨nm.toArray⟩, .slice none 0 0, .int .i64 (p : Int)] := (Bx.new w 27 _).below hb1
    have h3 : mb < w.heap.size := HW.out.lt
    have hB2 : Bx w2 w.heap.size 27 [.string ⟨#[108, 97, 98, 101, 108]⟩, .string ⟨nm.toArray⟩, .slice none 0 0, .int .i64 (p : Int)] := (hg.block _ hB.lt (by intro e; injection e with e; omega)).trans hB
    exact hB2.cell 2)
  have HG := Lib.hid (grown_blw (World.grownBy_alloc w (.cells #[.string ⟨#[108, 97, 98, 101, 108]⟩, .string ⟨nm.toArray⟩, .slice none 0 0, .int .i64 (p : Int)] 27) (some mb)) hb1)
  go_wp2_with (first
    | (at_mapUpdate; refine wpList_mapUpdate_own _ rfl _ _ _ 106 rfl 9 112 (string_keyed Tryz.underlying9) Tryz.underlying106 (unitElem (H := Unit)) mb n _ rfl HM.out hlt _ _ _ rfl rfl hkey _ [] unitElem_mk ?_; intro w2 hown2 hgrow2; have hx := HBX.out w2 hgrow2)
    | go_in)
  refine wp_loop_rounds 1 ?_
  rw [rounds_succ]
  go_wp2
  exact bodyPost_ret (v := .tuple #[]) (results_none rfl _ _ _) rfl ⟨rfl, by rw [HL.out, ← HP.out]; exact hown2, grown_tr HG.out hgrow2⟩
theorem lbs_kids {x : Fo} (ho : OkF x) (h : x.op ≠ opLab) : lbs x = x.kids.flatMap lbs := by
  cases x with
  | leaf op nm p => simp only [Fo.op] at h; simp [lbs, Fo.kids, h]
  | un op a p => simp [lbs, Fo.kids]
  | bin op a b p => simp [lbs, Fo.kids]
def fl (ks : List Fo) : List (List UInt8) := ks.flatMap lbs
theorem fl_succ {ks : List Fo} {k : Nat} (h : k < ks.length) : fl (ks.take (k + 1)) = fl (ks.take k) ++ lbs ks[k] := by
  unfold fl
  rw [List.take_succ_eq_append_getElem h, List.flatMap_append]
  simp
theorem fl_le {ks : List Fo} (k : Nat) : (fl (ks.take k)).length ≤ (fl ks).length := by
  have h : fl ks = fl (ks.take k) ++ fl (ks.drop k) := by unfold fl; rw [← List.flatMap_append, List.take_append_drop]
  rw [h, List.length_append]; omega
theorem lab_eq (x : Fo) : ((⟨x.op.toArray⟩ : ByteArray).toList == [108, 97, 98, 101, 108]) = decide (x.op = opLab) := by
  rw [ByteArray.toList_eq]
  show (x.op.toArray.toList == opLab) = _
  simp [Bool.beq_eq_decide_eq]
def GaRel (ks : List Fo) (mb n : Nat) (acc : List (List UInt8)) (w : World) (i : Value) (wr : World) : Prop :=
  ∃ k : Nat, i = .int .i64 (k : Int) ∧ k ≤ ks.length ∧ OM wr mb (n + (fl (ks.take k)).length) (lbD (acc ++ fl (ks.take k))) ∧ w.grownBy wr (some mb)
set_option maxHeartbeats 2000000 in
set_option maxRecDepth 100000 in
theorem gather_kids {x : Fo} (ho : OkF x) (h0 : x.op ≠ opLab) (ih : ∀ y ∈ x.kids, GaC y) : GaC x := by
  intro w S c mb n acc h hown hsz
  obtain ⟨A, cap, rfl, hA⟩ := h.view
  have g0 := lab_eq x
  rw [decide_eq_false h0] at g0
  have HL := Lib.hid (show lbs x = fl x.kids from lbs_kids ho h0)
  have HSZ := Lib.hid (show n + (fl x.kids).length ≤ 1000000 by rw [show fl x.kids = lbs x from (lbs_kids ho h0).symm]; exact hsz)
  have HA := Lib.hid hA
  have HI := Lib.hid ih
  have HW := Lib.hid hown
  have h3 := fkids_three x
  obtain ⟨m, hm⟩ : ∃ m, m = x.kids.length := ⟨_, rfl⟩
  have HM := Lib.hid hm
  show Calls Tryz.prog 73 #[.map (some mb), .agg #[.string ⟨x.op.toArray⟩, .string ⟨x.nm.toArray⟩, .slice A x.kids.length cap, .int .i64 (x.pos : Int)]] w _
  rw [← hm] at h3 ⊢
  obtain ⟨o, hoo⟩ : ∃ o, o = (⟨x.op.toArray⟩ : ByteArray) := ⟨_, rfl⟩
  rw [← hoo] at g0 ⊢
  clear h hown hsz hA ho h0 ih hm hoo
  go_enter Tryz.func73, Tryz.ntmps73
  go_wp2
  go_loopw [17] (fun i wr => GaRel x.kids mb n acc w i wr) (fun i _ => m - (intOf i).toNat)
  case atStart => exact ⟨0, rfl, Nat.zero_le _, by simpa [fl] using World.ownsMap.alloc HW.out _, World.grownBy_alloc w _ (some mb)⟩
  case round =>
    obtain ⟨k, rfl, hk, hown, hg⟩ := hrel
    by_cases hlt : k < m
    · have g2 : decide ((k : Int) < (m : Int)) = true := by simp; omega
      have k1 : k < x.kids.length := by rw [← HM.out]; exact hlt
      obtain ⟨g, ⟨o, nm, P, l, cp, p⟩, rfl, hgl, hH, a0, a1, a2, a3⟩ := HA.out.grown HW.out hg k k1
      have H1 := Lib.hid (HI.out _ (List.getElem_mem k1))
      have HH := Lib.hid hH
      have HO := Lib.hid hown
      have HG := Lib.hid hg
      have HF := Lib.hid (fl_succ k1)
      have HF2 := Lib.hid (fl_le (ks := x.kids) (k + 1))
      have hz := HSZ.out
      clear hH hown hg hk
      go_wp2_with fail
      refine (H1.out _ _ _ mb _ _ (HH.out.alloc _) (World.ownsMap.alloc HO.out _) (by have := HF2.out; rw [HF.out, List.length_append] at this; omega)).mono ?_
      rintro e w3 ⟨rfl, hown3, hg3⟩
      have HO3 := Lib.hid (show OM w3 mb (n + (fl (x.kids.take (k + 1))).length) (lbD (acc ++ fl (x.kids.take (k + 1)))) by rw [HF.out, List.length_append, ← List.append_assoc, ← Nat.add_assoc]; exact hown3)
      have HG3 := Lib.hid (grown_tr HG.out (grown_tr (World.grownBy_alloc wr _ (some mb)) hg3))
      clear hown3 hg3
      go_wp2
      go_roundw
      case rel => exact ⟨k + 1, by go_num, by omega, HO3.out, HG3.out⟩
      case measure => simp [intOf]; omega
    · have g2 : decide ((k : Int) < (m : Int)) = false := by simp; omega
      have hkn : x.kids.take k = x.kids := List.take_of_length_le (by rw [← HM.out]; omega)
      rw [hkn] at hown
      have HO := Lib.hid hown
      have HG := Lib.hid hg
      clear hown hg hk hkn
      go_wp2
      exact bodyPost_ret (v := .tuple #[]) (results_none rfl _ _ _) rfl ⟨rfl, by rw [HL.out]; exact HO.out, HG.out⟩
theorem gather_any : ∀ {x : Fo}, OkF x → GaC x
  | .leaf op nm p, h => by
    by_cases h0 : op = opLab
    · subst h0
      rcases h with h | h
      · exact gather_lab h.2
      · rcases h.1 with h | h <;> exact absurd h (by decide)
    · exact gather_kids h h0 (by simp [Fo.kids])
  | .un op a p, h => gather_kids h (fun e => by have := h.1; simp only [Fo.op] at e; rw [e] at this; exact absurd this (by decide)) (by simp only [Fo.kids, List.mem_singleton]; rintro x rfl; exact gather_any h.2)
  | .bin op a b p, h => gather_kids h (fun e => by have := h.1; simp only [Fo.op] at e; rw [e] at this; exact absurd this (by decide)) (by
      have h1 := gather_any h.2.1
      have h2 := gather_any h.2.2
      simp only [Fo.kids, List.mem_cons, List.not_mem_nil, or_false]
      rintro x (rfl | rfl) <;> assumption)
end
section
open Go.RowKit Go.Maps Go.Sort Go.WideMaps Go.Shelf

def LbQ (w : World) (l : List (List UInt8)) (e : Ending) (w' : World) : Prop := ∃ v, e = .returned v ∧ w'.ownsRow w.heap.size 9 1 v l.length (l.map encStr) ∧ l.Pairwise (fun x y => x < y) ∧ l.length ≤ 100000 ∧ Below w.heap.size w w'
theorem strKeys_len (D : DataW Unit) : (strKeys D).length ≤ Maps.size D := by cases D <;> simp [strKeys, Maps.size]
set_option maxHeartbeats 2000000 in
set_option maxRecDepth 100000 in
theorem plabels_any {x : Fo} {c : List Value} {S : Nat → Prop} (w : World) (ho : OkF x) (hz : x.size ≤ 100000) (h : FS w 27 S x c) : Calls Tryz.prog 44 #[.agg c.toArray] w (LbQ w (lbK (lbs x))) := by
  obtain ⟨A, cap, rfl, hA⟩ := h.view
  have HH := Lib.hid h
  have HO := Lib.hid ho
  have HZ := Lib.hid (show (lbs x).length ≤ 100000 from Nat.le_trans (lbs_len x) hz)
  have hmm := @run_makeMap Tryz.prog
  clear h ho hz hA
  show Calls Tryz.prog 44 #[.agg #[.string ⟨x.op.toArray⟩, .string ⟨x.nm.toArray⟩, .slice A x.kids.length cap, .int .i64 (x.pos : Int)]] w _
  go_enter Tryz.func44, Tryz.ntmps44
  go_wp2_with fail
  refine calls_gen (P := fun W => FS W 27 S x (FV.c ⟨⟨x.op.toArray⟩, ⟨x.nm.toArray⟩, A, x.kids.length, cap, (x.pos : Int)⟩) ∧ OM W (w.heap.size + 1) 0 (lbD []) ∧ Below w.heap.size w W) ⟨(HH.out.alloc _).alloc _, by simpa [OM, lbD_nil] using World.ownsMap_made (w.alloc (.cells #[.string ⟨x.op.toArray⟩, .string ⟨x.nm.toArray⟩, .slice A x.kids.length cap, .int .i64 (x.pos : Int)] 27)) Tryz.prog 9 (unitElem (H := Unit)), ((Below.refl _ _).alloc (Nat.le_refl _) _).alloc (by simp) _⟩ ?_
  rintro W ⟨hH, hM, hB⟩
  refine (gather_any HO.out W S _ _ _ [] hH hM (by have := HZ.out; omega)).mono ?_
  rintro e w3 ⟨rfl, hown, hg⟩
  rw [List.nil_append, Nat.zero_add] at hown
  have HN := Lib.hid hown
  have HB := Lib.hid (hB.grown hg hB.size (fun k hk => by injection hk with hk; omega))
  clear hH hM hB hown hg
  go_wp2_with fail
  refine (callsIn_wide.1 (Tryz.maps_Keys_75 _ _)).mono ?_
  rintro e w4 ⟨rfl, rfl⟩
  go_wp2_with fail
  refine (callsIn_wide.1 (Tryz.slices_Sorted_keys_74_75 _ _ _ _ w3 HN.out (Nat.le_trans HN.out.size_le (by have := HZ.out; unfold maxLen; omega)) (by have := HN.out.size_le; have := HZ.out; omega))).mono ?_
  rintro e w5 ⟨v, ss, rfl, hS, hrow, hnil, hb⟩
  have HR := Lib.hid (show w5.ownsRow w.heap.size 9 1 v (lbK (lbs x)).length ((lbK (lbs x)).map encStr) by
    rw [← lbK_perm hS, List.length_mergeSort]
    exact ownsRow_base_a hrow (by have := HB.out.size; simp; omega))
  have HLN := Lib.hid (show (lbK (lbs x)).length ≤ 100000 by
    rw [← lbK_len hS, hS.length_eq]
    exact Nat.le_trans (strKeys_len _) (Nat.le_trans HN.out.size_le HZ.out))
  have HF := Lib.hid (show Below w.heap.size w w5 from (HB.out.alloc HB.out.size _).trans (hb.mono (by have := HB.out.size; simp; omega)))
  clear hrow hnil hb hS
  go_wp2
  go_ret
  exact ⟨v, rfl, HR.out, lbK_asc HN.out (string_keyed Tryz.underlying9) Tryz.underlying9, HLN.out, HF.out⟩
/-- A slice's cells read as texts. -/
def RS (w : World) (A : Option Addr) (l : List (List UInt8)) : Prop := ∀ i (h : i < l.length), ∃ g, A = some ⟨g, 0, none⟩ ∧ g < w.heap.size ∧ w.cell? ⟨g, i, none⟩ = some (strV l[i])
theorem rs_row {w : World} {base : Nat} {v : Value} {l : List (List UInt8)} (h : w.ownsRow base 9 1 v l.length (l.map encStr)) : ∃ A cap, v = .slice A l.length cap ∧ RS w A l := by
  rcases h.2 with ⟨rfl, hn⟩ | ⟨g, cap, cur, hv, _, hb, _⟩
  · exact ⟨none, 0, by rw [hn], fun i hi => absurd hi (by omega)⟩
  · subst hv
    refine ⟨_, cap, rfl, fun i hi => ⟨g, rfl, (Array.getElem?_eq_some_iff.1 hb).1, ?_⟩⟩
    have h1 := h.cells (g := g) rfl i (strV l[i]) (by rw [List.getElem?_map, List.getElem?_eq_getElem hi]; simp [encStr, strV])
    have e : (⟨g, 0, none⟩ : Addr).add i = ⟨g, i, none⟩ := by
      unfold Addr.add
      by_cases hj : i = 0 <;> simp [hj]
    rw [e] at h1
    exact h1
theorem RS.below {w w' : World} {A : Option Addr} {l : List (List UInt8)} (h : RS w A l) (hb : Below w.heap.size w w') : RS w' A l := by
  intro i hi
  obtain ⟨g, h1, h2, h3⟩ := h i hi
  exact ⟨g, h1, Nat.lt_of_lt_of_le h2 hb.size, (hb.cell (p := ⟨g, i, none⟩) h2).trans h3⟩
theorem RS.drewN {w : World} {A : Option Addr} {l : List (List UInt8)} (h : RS w A l) (n : Nat) : RS (w.drewN n) A l := h.below (below_drewN (Below.refl _ _) n)
def TxRel (la lb : List (List UInt8)) (w : World) (i : Value) (wr : World) : Prop := ∃ k : Nat, i = .int .i64 (k : Int) ∧ k ≤ la.length ∧ la.take k = lb.take k ∧ Below w.heap.size w wr
theorem bytes_neF (a b : List UInt8) : ((⟨a.toArray⟩ : ByteArray).toList != (⟨b.toArray⟩ : ByteArray).toList) = decide (a ≠ b) := by
  rw [ByteArray.toList_eq, ByteArray.toList_eq]
  by_cases h : a = b <;> simp [h]
end
section
open Go.RowKit Go.Maps Go.Sort

/-- A formula at a place. -/
def At4 (W : World) (g i : Nat) (v : FV) (x : Fo) (S : Nat → Prop) : Prop :=
  g < W.heap.size ∧ W.cell? ⟨g, i, none⟩ = some (.string v.o) ∧ W.cell? ⟨g, i + 1, none⟩ = some (.string v.nm) ∧ W.cell? ⟨g, i + 2, none⟩ = some (.slice v.A v.ll v.cap) ∧ W.cell? ⟨g, i + 3, none⟩ = some (.int .i64 v.p) ∧ FS W 27 S x v.c
section
variable {W W' : World}
theorem At4.below {g i : Nat} {v : FV} {x : Fo} {S : Nat → Prop} (h : At4 W g i v x S) (hb : Below W.heap.size W W') : At4 W' g i v x S := by
  obtain ⟨h1, a0, a1, a2, a3, hH⟩ := h
  exact ⟨Nat.lt_of_lt_of_le h1 hb.size, (hb.cell h1).trans a0, (hb.cell h1).trans a1, (hb.cell h1).trans a2, (hb.cell h1).trans a3, hH.below hb⟩
theorem At4.alloc {g i : Nat} {v : FV} {x : Fo} {S : Nat → Prop} (h : At4 W g i v x S) (o : Obj) : At4 (W.alloc o) g i v x S := h.below ((Below.refl _ _).alloc (Nat.le_refl _) _)
theorem At4.fs {g i : Nat} {v : FV} {x : Fo} {S : Nat → Prop} (h : At4 W g i v x S) : FS W 27 S x v.c := h.2.2.2.2.2
theorem at4_new {v : FV} {x : Fo} {S : Nat → Prop} (h : FS W 27 S x v.c) : At4 (W.alloc (.cells v.c.toArray 27)) W.heap.size 0 v x S := by
  have hB := Bx.new W 27 v.c
  exact ⟨hB.lt, hB.cell 0, hB.cell 1, hB.cell 2, hB.cell 3, h.alloc _⟩
theorem FK.at4 {S : Nat → Prop} {A : Option Addr} {ks : List Fo} (h : FK W 27 S A ks) (i : Nat) (hi : i < ks.length) : ∃ g v, A = some ⟨g, 0, none⟩ ∧ At4 W g (i * 4) v ks[i] S := by
  obtain ⟨g, v, h1, h2, h3, c0, c1, c2, c3⟩ := h i hi
  exact ⟨g, v, h1, h2, c0, c1, c2, c3, h3⟩
end
def fA : Fo := .un [71] (.bin [61, 62] (.leaf opLab [97] 3) (.un [70] (.leaf opLab [98] 12) 10) 2) 0
theorem fA_ok : parseF 9 [71, 32, 40, 34, 97, 34, 32, 61, 62, 32, 70, 32, 34, 98, 34, 41] = .ok fA := by decide +kernel
theorem fA_er : parseF 9 [71] = .er 20 1 := by decide +kernel
theorem fA_okF : OkF fA := (parse_okf (by decide) fA_ok).1
theorem rs_ab (w : World) : RS (w.alloc (.cells #[.string ⟨#[97]⟩, .string ⟨#[98]⟩] 9)) (some ⟨w.heap.size, 0, none⟩) [[97], [98]] := by
  have hB := Bx.new w 9 [.string ⟨#[97]⟩, .string ⟨#[98]⟩]
  intro i hi
  refine ⟨w.heap.size, rfl, hB.lt, ?_⟩
  match i, hi with
  | 0, _ => exact hB.cell 0
  | 1, _ => exact hB.cell 1
end
end Go.Proofs.YtmgjpjjglghbaaaGreatDoor
