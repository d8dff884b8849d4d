/-
  Labels: the set filled, walked.
-/
import Derived.Test.YtjhicgllofjpoaaGreatDoorJb
import Derived.Test.YtjhicgllofjpoaaGreatDoorJ6
import Derived.Test.YtjhicgllofjpoaaGreatDoorLB
import Derived.Maps.Own
import Derived.WalkKit
namespace Go.Proofs.YtjhicgllofjpoaaGreatDoor
open Go.RowKit Go.Maps Go.Sort Go.WideMaps

theorem FS.grown {w w' : World} {P : Program} {ky : TypeId} {R : Value → Option (DataW Unit × List MemPlace)} {mb n : Nat} {D : DataW Unit} (hm : w.ownsMap P ky R mb n D) (hg : w.grownBy w' (some mb)) {e : TypeId} {S : Nat → Prop} {x : Fo} {c : List Value} (h : FS w e S x c) : FS w' e S x c :=
  h.keepY fun k _ _ h1 => hg.block k (blk_lt h1) (by
    intro e
    obtain ⟨es, clock, hb, _⟩ := hm
    injection e with e
    subst e
    rw [hb] at h1
    cases h1)
theorem FK.grown {w w' : World} {P : Program} {ky : TypeId} {R : Value → Option (DataW Unit × List MemPlace)} {mb n : Nat} {D : DataW Unit} (hm : w.ownsMap P ky R mb n D) (hg : w.grownBy w' (some mb)) {e : TypeId} {S : Nat → Prop} {A : Option Addr} {ks : List Fo} (h : FK w e S A ks) : FK w' e S A ks := by
  intro i hi
  obtain ⟨g, v, h1, h2, h3, c0, c1, c2, c3⟩ := h i hi
  have hne : some g ≠ some mb := by
    intro e
    obtain ⟨es, clock, hb, _⟩ := hm
    injection e with e
    subst e
    simp [World.cell?, hb] at c0
  have hc : ∀ j, w'.cell? ⟨g, j, none⟩ = w.cell? ⟨g, j, none⟩ := fun j => World.cell?_of_block (a := ⟨g, j, none⟩) (hg.block g h2 hne)
  exact ⟨g, v, h1, Nat.lt_of_lt_of_le h2 hg.size, h3.grown hm hg, (hc _).trans c0, (hc _).trans c1, (hc _).trans c2, (hc _).trans c3⟩
theorem World.grownBy.ofBelow {w w' : World} (h : Below w.heap.size w w') (r : Option Nat) : w.grownBy w' r := ⟨h.os, h.tape, h.output, h.size, fun k hk _ => h.block k hk⟩
abbrev OM (w : World) (mb n : Nat) (D : DataW Unit) : Prop := w.ownsMap Tryz.prog 9 (unitElem (H := Unit)) mb n D
theorem om_below {w w' : World} {mb n : Nat} {D : DataW Unit} (h : OM w mb n D) (hb : Below w.heap.size w w') : OM w' mb n D := World.ownsMap.kept h (World.grownBy.ofBelow hb none) (by simp)
theorem grown_tr {a b c : World} {r : Option Nat} (h : a.grownBy b r) (k : b.grownBy c r) : a.grownBy c r :=
  ⟨k.os.trans h.os, k.tape.trans h.tape, k.output.trans h.output, Nat.le_trans h.size k.size, fun i hi hn => (k.block i (Nat.lt_of_lt_of_le hi h.size) hn).trans (h.block i hi hn)⟩
theorem grown_blw {a b c : World} {r : Option Nat} (h : a.grownBy b r) (k : Below b.heap.size b c) : a.grownBy c r := grown_tr h (World.grownBy.ofBelow k r)
/-- What gathering leaves. -/
def GaQ (mb n : Nat) (acc : List (List UInt8)) (x : Fo) (w : World) (e : Ending) (w' : World) : Prop :=
  e = .returned (.tuple #[]) ∧ OM w' mb (n + (lbs x).length) (lbD (acc ++ lbs x)) ∧ w.grownBy w' (some mb)
def GaC (x : Fo) : Prop := ∀ (w : World) (S : Nat → Prop) (c : List Value) (mb n : Nat) (acc : List (List UInt8)), FS w 25 S x c → OM w mb n (lbD acc) → n + (lbs x).length ≤ 1000000 → Calls Tryz.prog 34 #[.map (some mb), .agg c.toArray] w (GaQ mb n acc x w)
theorem snoc_put (acc : List (List UInt8)) (nm : List UInt8) : (lbD acc).put (.string (⟨nm.toArray⟩ : ByteArray).data.toList) (.agg []) = lbD (acc ++ [nm]) := by
  rw [lbD_snoc]
set_option maxHeartbeats 2000000 in
set_option maxRecDepth 100000 in
theorem gather_lab {nm : List UInt8} {p : Nat} (hn : nm.length ≤ 65536) : GaC (.leaf opLab nm p) := by
  intro w S c mb n acc h hown hsz
  obtain rfl : c = [strV opLab, strV nm, .slice none 0 0, .int .i64 (p : Int)] := h
  have hs0 : (⟨nm.toArray⟩ : ByteArray).size ≤ 65536 := by show nm.toArray.size ≤ 65536; simpa using hn
  have hkey : keyOf Tryz.prog 9 (.string (⟨nm.toArray⟩ : ByteArray)) = some (.string (⟨nm.toArray⟩ : ByteArray).data.toList) := keyOf_string_mk Tryz.underlying9 (by unfold maxLen; omega)
  have HC := Lib.hid (fun W => clone_any ⟨nm.toArray⟩ W hs0)
  have HP := Lib.hid (snoc_put acc nm)
  have HW := Lib.hid hown
  have hL : (lbs (.leaf opLab nm p)) = [nm] := by simp [lbs]
  have HL := Lib.hid hL
  have hlt : n < maxLen := by rw [hL] at hsz; unfold maxLen; simp at hsz; omega
  clear hown hsz hs0 hn hL
  show Calls Tryz.prog 34 #[.map (some mb), .agg #[.string ⟨#[108, 97, 98, 101, 108]⟩, .string ⟨nm.toArray⟩, .slice none 0 0, .int .i64 (p : Int)]] w _
  have hmm := @run_makeMap Tryz.prog
  go_enter Tryz.func34, Tryz.ntmps34
  go_wp2_with fail
  refine (HC.out _).mono ?_
  rintro e w1 ⟨rfl, hb1⟩
  have HM := Lib.hid (om_below (World.ownsMap.alloc HW.out _) hb1)
  have HBX := Lib.hid (fun (w2 : World) (hg : w1.grownBy w2 (some mb)) => show w2.cell? ⟨w.heap.size, 2, none⟩ = some (.slice none 0 0) by
    have hB : Bx w1 w.heap.size 25 [.string ⟨#[108, 97, 98, 101, 108]⟩, .string ⟨nm.toArray⟩, .slice none 0 0, .int .i64 (p : Int)] := (Bx.new w 25 _).below hb1
    have h3 : mb < w.heap.size := HW.out.lt
    have hB2 : Bx w2 w.heap.size 25 [.string ⟨#[108, 97, 98, 101, 108]⟩, .string ⟨nm.toArray⟩, .slice none 0 0, .int .i64 (p : Int)] := (hg.block _ hB.lt (by intro e; injection e with e; omega)).trans hB
    exact hB2.cell 2)
  have HG := Lib.hid (grown_blw (World.grownBy_alloc w (.cells #[.string ⟨#[108, 97, 98, 101, 108]⟩, .string ⟨nm.toArray⟩, .slice none 0 0, .int .i64 (p : Int)] 25) (some mb)) hb1)
  go_wp2_with (first
    | (at_mapUpdate; refine wpList_mapUpdate_own _ rfl _ _ _ 87 rfl 9 93 (string_keyed Tryz.underlying9) Tryz.underlying87 (unitElem (H := Unit)) mb n _ rfl HM.out hlt _ _ _ rfl rfl hkey _ [] unitElem_mk ?_; intro w2 hown2 hgrow2; have hx := HBX.out w2 hgrow2)
    | go_in)
  refine wp_loop_rounds 1 ?_
  rw [rounds_succ]
  go_wp2
  exact bodyPost_ret (v := .tuple #[]) (results_none rfl _ _ _) rfl ⟨rfl, by rw [HL.out, ← HP.out]; exact hown2, grown_tr HG.out hgrow2⟩
theorem lbs_kids {x : Fo} (ho : OkF x) (h : x.op ≠ opLab) : lbs x = x.kids.flatMap lbs := by
  cases x with
  | leaf op nm p => simp only [Fo.op] at h; simp [lbs, Fo.kids, h]
  | un op a p => simp [lbs, Fo.kids]
  | bin op a b p => simp [lbs, Fo.kids]
def fl (ks : List Fo) : List (List UInt8) := ks.flatMap lbs
theorem fl_succ {ks : List Fo} {k : Nat} (h : k < ks.length) : fl (ks.take (k + 1)) = fl (ks.take k) ++ lbs ks[k] := by
  unfold fl
  rw [List.take_succ_eq_append_getElem h, List.flatMap_append]
  simp
theorem fl_le {ks : List Fo} (k : Nat) : (fl (ks.take k)).length ≤ (fl ks).length := by
  have h : fl ks = fl (ks.take k) ++ fl (ks.drop k) := by unfold fl; rw [← List.flatMap_append, List.take_append_drop]
  rw [h, List.length_append]; omega
theorem lab_eq (x : Fo) : ((⟨x.op.toArray⟩ : ByteArray).toList == [108, 97, 98, 101, 108]) = decide (x.op = opLab) := by
  rw [ByteArray.toList_eq]
  show (x.op.toArray.toList == opLab) = _
  simp [Bool.beq_eq_decide_eq]
def GaRel (ks : List Fo) (mb n : Nat) (acc : List (List UInt8)) (w : World) (i : Value) (wr : World) : Prop :=
  ∃ k : Nat, i = .int .i64 (k : Int) ∧ k ≤ ks.length ∧ OM wr mb (n + (fl (ks.take k)).length) (lbD (acc ++ fl (ks.take k))) ∧ w.grownBy wr (some mb)
set_option maxHeartbeats 2000000 in
set_option maxRecDepth 100000 in
theorem gather_kids {x : Fo} (ho : OkF x) (h0 : x.op ≠ opLab) (ih : ∀ y ∈ x.kids, GaC y) : GaC x := by
  intro w S c mb n acc h hown hsz
  obtain ⟨A, cap, rfl, hA⟩ := h.view
  have g0 := lab_eq x
  rw [decide_eq_false h0] at g0
  have HL := Lib.hid (show lbs x = fl x.kids from lbs_kids ho h0)
  have HSZ := Lib.hid (show n + (fl x.kids).length ≤ 1000000 by rw [show fl x.kids = lbs x from (lbs_kids ho h0).symm]; exact hsz)
  have HA := Lib.hid hA
  have HI := Lib.hid ih
  have HW := Lib.hid hown
  have h3 := fkids_three x
  obtain ⟨m, hm⟩ : ∃ m, m = x.kids.length := ⟨_, rfl⟩
  have HM := Lib.hid hm
  show Calls Tryz.prog 34 #[.map (some mb), .agg #[.string ⟨x.op.toArray⟩, .string ⟨x.nm.toArray⟩, .slice A x.kids.length cap, .int .i64 (x.pos : Int)]] w _
  rw [← hm] at h3 ⊢
  obtain ⟨o, hoo⟩ : ∃ o, o = (⟨x.op.toArray⟩ : ByteArray) := ⟨_, rfl⟩
  rw [← hoo] at g0 ⊢
  clear h hown hsz hA ho h0 ih hm hoo
  go_enter Tryz.func34, Tryz.ntmps34
  go_wp2
  go_loopw [17] (fun i wr => GaRel x.kids mb n acc w i wr) (fun i _ => m - (intOf i).toNat)
  case atStart => exact ⟨0, rfl, Nat.zero_le _, by simpa [fl] using World.ownsMap.alloc HW.out _, World.grownBy_alloc w _ (some mb)⟩
  case round =>
    obtain ⟨k, rfl, hk, hown, hg⟩ := hrel
    by_cases hlt : k < m
    · have g2 : decide ((k : Int) < (m : Int)) = true := by simp; omega
      have k1 : k < x.kids.length := by rw [← HM.out]; exact hlt
      obtain ⟨g, ⟨o, nm, P, l, cp, p⟩, rfl, hgl, hH, a0, a1, a2, a3⟩ := HA.out.grown HW.out hg k k1
      have H1 := Lib.hid (HI.out _ (List.getElem_mem k1))
      have HH := Lib.hid hH
      have HO := Lib.hid hown
      have HG := Lib.hid hg
      have HF := Lib.hid (fl_succ k1)
      have HF2 := Lib.hid (fl_le (ks := x.kids) (k + 1))
      have hz := HSZ.out
      clear hH hown hg hk
      go_wp2_with fail
      refine (H1.out _ _ _ mb _ _ (HH.out.alloc _) (World.ownsMap.alloc HO.out _) (by have := HF2.out; rw [HF.out, List.length_append] at this; omega)).mono ?_
      rintro e w3 ⟨rfl, hown3, hg3⟩
      have HO3 := Lib.hid (show OM w3 mb (n + (fl (x.kids.take (k + 1))).length) (lbD (acc ++ fl (x.kids.take (k + 1)))) by rw [HF.out, List.length_append, ← List.append_assoc, ← Nat.add_assoc]; exact hown3)
      have HG3 := Lib.hid (grown_tr HG.out (grown_tr (World.grownBy_alloc wr _ (some mb)) hg3))
      clear hown3 hg3
      go_wp2
      go_roundw
      case rel => exact ⟨k + 1, by go_num, by omega, HO3.out, HG3.out⟩
      case measure => simp [intOf]; omega
    · have g2 : decide ((k : Int) < (m : Int)) = false := by simp; omega
      have hkn : x.kids.take k = x.kids := List.take_of_length_le (by rw [← HM.out]; omega)
      rw [hkn] at hown
      have HO := Lib.hid hown
      have HG := Lib.hid hg
      clear hown hg hk hkn
      go_wp2
      exact bodyPost_ret (v := .tuple #[]) (results_none rfl _ _ _) rfl ⟨rfl, by rw [HL.out]; exact HO.out, HG.out⟩
theorem gather_any : ∀ {x : Fo}, OkF x → GaC x
  | .leaf op nm p, h => by
    by_cases h0 : op = opLab
    · subst h0
      rcases h with h | h
      · exact gather_lab h.2
      · rcases h.1 with h | h <;> exact absurd h (by decide)
    · exact gather_kids h h0 (by simp [Fo.kids])
  | .un op a p, h => gather_kids h (fun e => by have := h.1; simp only [Fo.op] at e; rw [e] at this; exact absurd this (by decide)) (by simp only [Fo.kids, List.mem_singleton]; rintro x rfl; exact gather_any h.2)
  | .bin op a b p, h => gather_kids h (fun e => by have := h.1; simp only [Fo.op] at e; rw [e] at this; exact absurd this (by decide)) (by
      have h1 := gather_any h.2.1
      have h2 := gather_any h.2.2
      simp only [Fo.kids, List.mem_cons, List.not_mem_nil, or_false]
      rintro x (rfl | rfl) <;> assumption)
end Go.Proofs.YtjhicgllofjpoaaGreatDoor
