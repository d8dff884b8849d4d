/-
  A model's parts told: definitions, settings, variables, branches.
-/
import Derived.Test.YtodijgndbjfbgaaGreatDoorT4
import Derived.Lib.ItoaNum
namespace Go.Proofs.YtodijgndbjfbgaaGreatDoor
open Go.RowKit

/-- A box that a call has made for its argument. -/
structure BXm (w W : World) (τ : TypeId) (cs : List Value) : Prop where
  bx : Bx W w.heap.size τ cs
  bl : Below w.heap.size w W
def BXP (w : World) (τ : TypeId) (cs : List Value) (v : Value) (e : Ending) (w' : World) : Prop := e = .returned v ∧ BXm w w' τ cs
section
variable {w W W' : World} {τ : TypeId} {cs : List Value}
theorem BXm.new (w : World) (τ : TypeId) (cs : List Value) : BXm w (w.alloc (.cells cs.toArray τ)) τ cs := ⟨Bx.new w τ cs, (Below.refl _ _).alloc (Nat.le_refl _) _⟩
theorem BXm.below (k : BXm w W τ cs) (hb : Below W.heap.size W W') : BXm w W' τ cs := ⟨k.bx.below hb, k.bl.trans (hb.mono k.bl.size)⟩
theorem BXm.drew (k : BXm w W τ cs) : BXm w W.drew τ cs := k.below (Below.refl _ _).drew
theorem BXm.callT (k : BXm w W τ cs) {f : FuncId} {args : Array Value} {l : List UInt8} (H : ∀ W, Below w.heap.size w W → Calls Tryz.prog f args W (TlP l W)) {t : ByteArray} (ht : t.data.toList = l) : Calls Tryz.prog f args W (BXP w τ cs (.string t)) :=
  (H W k.bl).mono fun _ _ ⟨h1, h2⟩ => ⟨by rw [h1, ret_strM ht], k.below h2⟩
theorem BXm.line (k : BXm w W τ cs) {s : ByteArray} (h : s.size ≤ 100000000) : Calls Tryz.prog 33 #[.string s] W (BXP w τ cs (.string (s ++ ⟨#[10]⟩))) :=
  (mline_any s W h).mono fun _ _ ⟨h1, h2⟩ => ⟨h1, h2 ▸ k⟩
end
theorem sz_toArray (l : List UInt8) : (⟨l.toArray⟩ : ByteArray).size = l.length := by show l.toArray.size = _; simp
set_option maxRecDepth 100000 in
theorem tconst_any : ToldC 35 DH DOk (tlDef wConst) := by
  intro d w b c hok hp hT
  obtain ⟨v, rfl, hx⟩ := hp
  have HC := Lib.hid (fun (W : World) (hW : Below w.heap.size w W) => tdef_any hok.1 W ⟨wConst.toArray⟩ ⟨d.nm.toArray⟩ (hx.keep (Kt.below (E := E0) hW) id) (tabs_on hT hW) (by decide) (by rw [sz_toArray]; have := hok.2; omega))
  clear hok hx hT
  change Calls Tryz.prog 35 #[.agg #[.string ⟨d.nm.toArray⟩, .string v.o, .string v.nm, .int .i64 v.n, .slice v.A v.ll v.cap, .int .i64 v.p, .int .i64 ((d.pos : Nat) : Int)]] w _
  go_enter Tryz.func35, Tryz.ntmps35
  go_wp2_with fail
  refine (HC.out _ ((Below.refl _ _).alloc (Nat.le_refl _) _)).mono ?_
  rintro e w1 ⟨rfl, hb1⟩
  have HB := Lib.hid (((Below.refl w.heap.size w).alloc (Nat.le_refl _) _).trans (hb1.mono (by simp)))
  clear hb1
  go_wp2
  go_ret
  exact ⟨rfl, HB.out⟩
set_option maxRecDepth 100000 in
theorem tformula_any : ToldC 36 DH DOk (tlDef wFormula) := by
  intro d w b c hok hp hT
  obtain ⟨v, rfl, hx⟩ := hp
  have HC := Lib.hid (fun (W : World) (hW : Below w.heap.size w W) => tdef_any hok.1 W ⟨wFormula.toArray⟩ ⟨d.nm.toArray⟩ (hx.keep (Kt.below (E := E0) hW) id) (tabs_on hT hW) (by decide) (by rw [sz_toArray]; have := hok.2; omega))
  clear hok hx hT
  change Calls Tryz.prog 36 #[.agg #[.string ⟨d.nm.toArray⟩, .string v.o, .string v.nm, .int .i64 v.n, .slice v.A v.ll v.cap, .int .i64 v.p, .int .i64 ((d.pos : Nat) : Int)]] w _
  go_enter Tryz.func36, Tryz.ntmps36
  go_wp2_with fail
  refine (HC.out _ ((Below.refl _ _).alloc (Nat.le_refl _) _)).mono ?_
  rintro e w1 ⟨rfl, hb1⟩
  have HB := Lib.hid (((Below.refl w.heap.size w).alloc (Nat.le_refl _) _).trans (hb1.mono (by simp)))
  clear hb1
  go_wp2
  go_ret
  exact ⟨rfl, HB.out⟩
set_option maxRecDepth 100000 in
theorem tlabel_any : ToldC 37 DH DOk tlLab := by
  intro d w b c hok hp hT
  obtain ⟨v, rfl, hx⟩ := hp
  have hns : (⟨d.nm.toArray⟩ : ByteArray).size ≤ 1000000 := by rw [sz_toArray]; exact hok.2
  have HE := Lib.hid (show wLabel ++ 32 :: (((⟨#[34]⟩ : ByteArray) ++ ⟨d.nm.toArray⟩ ++ (⟨#[34]⟩ : ByteArray)).data.toList ++ ([32, 61, 32] ++ (shO d.x ++ [59, 10]))) = tlLab d by simp [tlLab])
  have HC := Lib.hid (fun (W : World) (nm : ByteArray) (hn : nm.size ≤ 1000010) (hW : Below w.heap.size w W) => tdef_any hok.1 W ⟨wLabel.toArray⟩ nm (hx.keep (Kt.below (E := E0) hW) id) (tabs_on hT hW) (by decide) hn)
  have n1 : ¬ 9223372036854775807 < 1 + (⟨d.nm.toArray⟩ : ByteArray).size := by omega
  have n2 : ¬ 9223372036854775807 < 1 + (⟨d.nm.toArray⟩ : ByteArray).size + 1 := by omega
  clear hok hx hT
  change Calls Tryz.prog 37 #[.agg #[.string ⟨d.nm.toArray⟩, .string v.o, .string v.nm, .int .i64 v.n, .slice v.A v.ll v.cap, .int .i64 v.p, .int .i64 ((d.pos : Nat) : Int)]] w _
  generalize (⟨d.nm.toArray⟩ : ByteArray) = nm at *
  go_enter Tryz.func37, Tryz.ntmps37
  go_wp2_with fail
  refine (HC.out _ _ (by simp only [ByteArray.size_append]; show 1 + nm.size + 1 ≤ _; omega) ((Below.refl _ _).alloc (Nat.le_refl _) _)).mono ?_
  rintro e w1 ⟨rfl, hb1⟩
  have HB := Lib.hid (((Below.refl w.heap.size w).alloc (Nat.le_refl _) _).trans (hb1.mono (by simp)))
  clear hb1
  go_wp2
  go_ret
  exact ⟨by rw [← HE.out]; simp, HB.out⟩
set_option maxHeartbeats 2000000 in
set_option maxRecDepth 100000 in
theorem tset_any : ToldC 119 DH DOk tlSet := by
  intro d w b c hok hp hT
  obtain ⟨v, rfl, hx⟩ := hp
  have hns : (⟨d.nm.toArray⟩ : ByteArray).size ≤ 1000000 := by rw [sz_toArray]; exact hok.2
  have HC := Lib.hid (fun (W : World) (hW : Below w.heap.size w W) => xprint hok.1 W (hx.keep (Kt.below (E := E0) hW) id) (tabs_on hT hW))
  obtain ⟨t, ht, hts⟩ := str_ofM (shO d.x) 1000000 (xok_len hok.1)
  have HT := Lib.hid ht
  have HNM := Lib.hid (show (⟨d.nm.toArray⟩ : ByteArray).data.toList = d.nm from rfl)
  have n1 : ¬ 9223372036854775807 < 1 + (⟨d.nm.toArray⟩ : ByteArray).size := by omega
  have n2 : ¬ 9223372036854775807 < 1 + (⟨d.nm.toArray⟩ : ByteArray).size + 4 := by omega
  have n3 : ¬ 9223372036854775807 < 1 + (⟨d.nm.toArray⟩ : ByteArray).size + 4 + t.size := by omega
  have n4 : ¬ 9223372036854775807 < 1 + (⟨d.nm.toArray⟩ : ByteArray).size + 4 + t.size + 1 := by omega
  clear hok hx hT ht
  change Calls Tryz.prog 119 #[.agg #[.string ⟨d.nm.toArray⟩, .string v.o, .string v.nm, .int .i64 v.n, .slice v.A v.ll v.cap, .int .i64 v.p, .int .i64 ((d.pos : Nat) : Int)]] w _
  generalize (⟨d.nm.toArray⟩ : ByteArray) = nm at *
  generalize ((d.pos : Nat) : Int) = q at *
  have LK := Lib.hid (BXm.new w 115 [.string nm, .string v.o, .string v.nm, .int .i64 v.n, .slice v.A v.ll v.cap, .int .i64 v.p, .int .i64 q])
  go_enter Tryz.func119, Tryz.ntmps119
  go_wp2_with fail
  have lk : BXm w (w.alloc (.cells #[.string nm, .string v.o, .string v.nm, .int .i64 v.n, .slice v.A v.ll v.cap, .int .i64 v.p, .int .i64 q] 115)) 115 [.string nm, .string v.o, .string v.nm, .int .i64 v.n, .slice v.A v.ll v.cap, .int .i64 v.p, .int .i64 q] := LK.out
  clear LK
  generalize w.alloc (.cells #[.string nm, .string v.o, .string v.nm, .int .i64 v.n, .slice v.A v.ll v.cap, .int .i64 v.p, .int .i64 q] 115) = W at lk ⊢
  replace lk := lk.drew
  go_region_held3 (fun w' => w'.cell? ⟨w.heap.size, 0, none⟩ = some (.string nm) ∧ w'.cell? ⟨w.heap.size, 1, none⟩ = some (.string v.o) ∧ w'.cell? ⟨w.heap.size, 2, none⟩ = some (.string v.nm) ∧ w'.cell? ⟨w.heap.size, 3, none⟩ = some (.int .i64 v.n) ∧ w'.cell? ⟨w.heap.size, 4, none⟩ = some (.slice v.A v.ll v.cap) ∧ w'.cell? ⟨w.heap.size, 5, none⟩ = some (.int .i64 v.p)) (exact ⟨lk.bx.cell 0, lk.bx.cell 1, lk.bx.cell 2, lk.bx.cell 3, lk.bx.cell 4, lk.bx.cell 5⟩) (first
    | (go_at_call 94; (with_reducible refine (lk.callT HC.out HT.out).mono ?_); rintro e wA ⟨rfl, lk2⟩; replace lk := lk2; clear lk2))
  all_goals go_wp2
  all_goals go_ret
  all_goals exact ⟨ret_strM (by simp [tlSet, HT.out, HNM.out]), lk.bl⟩
end Go.Proofs.YtodijgndbjfbgaaGreatDoor
