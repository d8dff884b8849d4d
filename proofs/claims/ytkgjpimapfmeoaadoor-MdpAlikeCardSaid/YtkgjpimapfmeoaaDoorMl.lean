/-
  One and alive, walked.
-/
import Derived.Test.YtkgjpimapfmeoaaDoorMk
import Derived.Test.YtkgjpimapfmeoaaDoorM8
import Derived.Test.YtkgjpimapfmeoaaDoorP1
namespace Go.Proofs.YtkgjpimapfmeoaaDoor
open Go.RowKit

def oneO : PrO := ⟨0, [[⟨⟨#[]⟩, [⟨0, 1⟩]⟩]], [⟨#[97]⟩], [[0]]⟩
theorem one_right : oneO.right := by decide
def OneP (w : World) (e : Ending) (w' : World) : Prop := ∃ v : PV, e = .returned (.agg (v.l oneO).toArray) ∧ PrM w' v oneO ∧ Below w.heap.size w w'
theorem Bx.newAt {w : World} {k : Nat} (hk : k = w.heap.size) (t : TypeId) (cs : List Value) : Bx (w.alloc (.cells cs.toArray t)) k t cs := by subst hk; exact Bx.new w t cs
theorem Bx.up {w : World} {q : Nat} {t : TypeId} {cs : List Value} (h : Bx w q t cs) (o : Obj) : Bx (w.alloc o) q t cs := h.below (below_alloc w o)
theorem lt_one {n : Nat} (h : n < [()].length) : n = 0 := by simp at h; exact h
set_option maxHeartbeats 4000000 in
set_option maxRecDepth 100000 in
theorem one_any (w : World) : Calls Tryd.prog 20 #[] w (OneP w) := by
  go_enter Tryd.func20, Tryd.ntmps20
  go_wp2
  obtain ⟨b, hb⟩ : ∃ b, b = w.heap.size := ⟨_, rfl⟩
  generalize hW : World.alloc (World.alloc (World.alloc (World.alloc (World.alloc (World.alloc (World.alloc w _) _) _) _) _) _) _ = W
  have b0 : Bx W b 26 [.int .i64 0, .slice (some ⟨b + 1 + 1 + 1, 0, none⟩) 1 1, .slice (some ⟨b + 1 + 1 + 1 + 1, 0, none⟩) 1 1, .slice (some ⟨b + 1 + 1 + 1 + 1 + 1 + 1, 0, none⟩) 1 1] := by
    rw [← hW, ← hb]; exact ((((((Bx.newAt hb _ _).up _).up _).up _).up _).up _).up _
  have b1 : Bx W (b + 1) 56 [.int .i64 0, .int .i64 1] := by
    rw [← hW]; exact (((((Bx.newAt (by simp [hb]) _ _).up _).up _).up _).up _).up _
  have b2 : Bx W (b + 1 + 1) 54 [.string ⟨#[]⟩, .slice (some ⟨b + 1, 0, none⟩) 1 1] := by
    rw [← hW, ← hb]; exact ((((Bx.newAt (by simp [hb]) _ _).up _).up _).up _).up _
  have b3 : Bx W (b + 1 + 1 + 1) 45 [.slice (some ⟨b + 1 + 1, 0, none⟩) 1 1] := by
    rw [← hW, ← hb]; exact (((Bx.newAt (by simp [hb]) _ _).up _).up _).up _
  have b4 : Bx W (b + 1 + 1 + 1 + 1) 9 [.string ⟨#[97]⟩] := by
    rw [← hW, ← hb]; exact ((Bx.newAt (by simp [hb]) _ _).up _).up _
  have b5 : Bx W (b + 1 + 1 + 1 + 1 + 1) 3 [.int .i64 0] := by
    rw [← hW, ← hb]; exact (Bx.newAt (by simp [hb]) _ _).up _
  have b6 : Bx W (b + 1 + 1 + 1 + 1 + 1 + 1) 36 [.slice (some ⟨b + 1 + 1 + 1 + 1 + 1, 0, none⟩) 1 1] := by
    rw [← hW, ← hb]; exact Bx.newAt (by simp [hb]) _ _
  have hB : Below w.heap.size w W := by rw [← hW]; exact below_t (below_t (below_t (below_t (below_t (below_t (below_alloc _ _) (below_alloc _ _)) (below_alloc _ _)) (below_alloc _ _)) (below_alloc _ _)) (below_alloc _ _)) (below_alloc _ _)
  obtain ⟨u0, u1, u2, u3⟩ := b0.cells4
  clear hW
  rw [← hb]
  refine bodyPost_ret (v := .agg #[.int .i64 0, .slice (some ⟨b + 1 + 1 + 1, 0, none⟩) 1 1, .slice (some ⟨b + 1 + 1 + 1 + 1, 0, none⟩) 1 1, .slice (some ⟨b + 1 + 1 + 1 + 1 + 1 + 1, 0, none⟩) 1 1]) (by simp [results, Tryd.results20, go_sem, u0, u1, u2, u3]) rfl ⟨⟨some ⟨b + 1 + 1 + 1, 0, none⟩, 1, some ⟨b + 1 + 1 + 1 + 1, 0, none⟩, 1, some ⟨b + 1 + 1 + 1 + 1 + 1 + 1, 0, none⟩, 1⟩, rfl, ⟨fun i hi => ?_, Nat.le_refl _, fun i hi => ?_, ⟨Nat.le_refl _, fun e => (by cases e)⟩, fun i hi => ?_, Nat.le_refl _⟩, hB⟩
  · obtain rfl := lt_one hi
    refine ⟨_, _, _, _, rfl, b3.cell 0, Nat.le_refl _, fun j hj => ?_⟩
    obtain rfl := lt_one hj
    refine ⟨_, _, _, _, rfl, b2.cell 0, b2.cell 1, Nat.le_refl _, fun k hk => ?_⟩
    obtain rfl := lt_one hk
    exact ⟨_, _, rfl, b1.cell 0, b1.cell 1⟩
  · obtain rfl := lt_one hi
    exact ⟨_, _, rfl, b4.cell 0⟩
  · obtain rfl := lt_one hi
    refine ⟨_, _, _, _, rfl, b6.cell 0, ⟨Nat.le_refl _, fun e => (by cases e)⟩, fun j hj => ?_⟩
    obtain rfl := lt_one hj
    exact ⟨_, _, rfl, b5.cell 0⟩
def emptyO : PrO := ⟨0, [], [], []⟩
theorem empty_right : ¬ emptyO.right := fun h => absurd h.1 (by decide)
theorem empty_mem (w : World) : PrM w ⟨none, 0, none, 0, none, 0⟩ emptyO := ⟨LSl.nil, Nat.le_refl _, SSl.nil, ⟨Nat.le_refl _, fun _ => rfl⟩, HSl.nil, Nat.le_refl _⟩
theorem one_sml : Sml oneO := ⟨by decide, by decide, by decide, by decide, by decide, by decide⟩
theorem empty_sml : Sml emptyO := ⟨by decide, by decide, by decide, by decide, by decide, by decide⟩
theorem one_letE : letE oneO [⟨#[97]⟩] = 0 := letE_ok ⟨one_right, by decide, by decide⟩ (fun x hx => by simpa [oneO] using hx)
theorem one_letO : letO oneO [⟨#[97]⟩] = [1] := by
  rw [letO, if_pos one_letE]
  decide
set_option maxHeartbeats 8000000 in
set_option maxRecDepth 100000 in
theorem alive_yes (w : World) (hG : Glob w) : Calls Tryd.prog 6 #[] w (BoolP true w) := by
  have HG := Lib.hid hG
  clear hG
  go_enter Tryd.func6, Tryd.ntmps6
  go_wp2_with fail
  refine (one_any w).mono ?_
  rintro e w1 ⟨v1, rfl, hm1, hb1⟩
  have HM1 := Lib.hid hm1
  have HB1 := Lib.hid hb1
  clear hm1 hb1
  go_wp2_with fail
  refine (of_any w1 HM1.out one_sml).mono ?_
  rintro e w2 ⟨v2, rfl, hm2, hb2⟩
  have HM2 := Lib.hid hm2.mem
  have HB2 := Lib.hid (below_t HB1.out hb2)
  clear hm2 hb2
  have HL := Lib.hid (fun (W : World) (hb : Below w2.heap.size w2 W) (hl : SSl W (some ⟨w2.heap.size, 0, none⟩) [⟨#[97]⟩]) => letters_any (cl := 1) W (HM2.out.below hb) one_sml hl (by decide))
  have HN2 := Lib.hid (Bx.new w2 9 [.string ⟨#[97]⟩])
  go_wp2_with fail
  refine (HL.out _ (below_alloc w2 (.cells #[.string ⟨#[97]⟩] 9)) (fun i hi => by obtain rfl := lt_one hi; exact ⟨_, _, rfl, HN2.out.cell 0⟩)).mono ?_
  rintro e w3 ⟨A, cap, rfl, hil, hb3⟩
  rw [one_letO] at hil ⊢
  rw [one_letE, show errV 0 = Value.nilIface from rfl]
  obtain ⟨g, o, rfl, c0⟩ := hil 0 (by decide)
  have C0 := Lib.hid (show w3.cell? ⟨g, o + 0, none⟩ = some (.int .i64 1) from c0)
  have HB3 := Lib.hid (below_t (below_t HB2.out (below_alloc w2 (.cells #[.string ⟨#[97]⟩] 9))) hb3)
  clear hil hb3 c0 HL HN2 HM2
  go_wp2_with fail
  refine (one_any w3).mono ?_
  rintro e w4 ⟨v4, rfl, hm4, hb4⟩
  have HM4 := Lib.hid hm4
  have HB4 := Lib.hid (below_t HB3.out hb4)
  have C4 := Lib.hid (cell_blw hb4 C0.out)
  clear hm4 hb4
  go_wp2_with fail
  refine (of_any w4 HM4.out one_sml).mono ?_
  rintro e w5 ⟨v5, rfl, hm5, hb5⟩
  have HM5 := Lib.hid hm5.mem
  have HB5 := Lib.hid (below_t HB4.out hb5)
  have C5 := Lib.hid (cell_blw hb5 C4.out)
  clear hm5 hb5
  go_wp2_with fail
  refine (check_any w5 HM5.out one_sml).mono ?_
  rintro e w6 ⟨rfl, hb6⟩
  rw [if_pos one_right]
  have HB6 := Lib.hid (below_t HB5.out hb6)
  have C6 := Lib.hid (cell_blw hb6 C5.out)
  clear hb6
  go_wp2_with fail
  refine (check_any w6 (empty_mem w6) empty_sml).mono ?_
  rintro e w7 ⟨rfl, hb7⟩
  rw [if_neg empty_right]
  have HB7 := Lib.hid (below_t HB6.out hb7)
  have C7 := Lib.hid (cell_blw hb7 C6.out)
  clear hb7
  go_wp2_with fail
  refine (num_errno 1 w7 (HG.out.below HB7.out)).mono ?_
  rintro e w8 ⟨rfl, hb8⟩
  have HB8 := Lib.hid (below_t HB7.out hb8)
  have c8 := cell_blw hb8 C7.out
  rw [Nat.add_zero] at c8
  clear hb8
  go_wp2
  go_ret
  exact ⟨rfl, HB8.out⟩
end Go.Proofs.YtkgjpimapfmeoaaDoor
