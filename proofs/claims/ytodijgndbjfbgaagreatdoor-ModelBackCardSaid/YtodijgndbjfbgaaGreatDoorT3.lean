/-
  A model's smallest parts told: a line, a definition, a setting.
-/
import Derived.Test.YtodijgndbjfbgaaGreatDoorT2
import Derived.Test.YtodijgndbjfbgaaGreatDoorXC
import Derived.Deep.RegionHeld3
namespace Go.Proofs.YtodijgndbjfbgaaGreatDoor
open Go.RowKit

def XOk (x : Option Ex) : Prop := ∃ e, x = some e ∧ Ok e ∧ (shw e).length ≤ 1000000
def DOk (d : DefO) : Prop := XOk d.x ∧ d.nm.length ≤ 1000000
/-- What a function tells of a part. -/
def ToldC {α : Type} (f : FuncId) (P : World → Nat → α → List Value → Prop) (ok : α → Prop) (tl : α → List UInt8) : Prop :=
  ∀ (a : α) (w : World) (b : Nat) (c : List Value), ok a → P w b a c → Tabs w → Calls Tryz.prog f #[.agg c.toArray] w (TlP (tl a) w)
theorem mline_any (s : ByteArray) (w : World) (h : s.size ≤ 100000000) : Calls Tryz.prog 33 #[.string s] w fun e w' => e = .returned (.string (s ++ ⟨#[10]⟩)) ∧ w = w' := by
  have n1 : ¬ 9223372036854775807 < s.size + 1 := by omega
  go_enter Tryz.func33, Tryz.ntmps33
  go_wp2
  go_ret
  exact ⟨rfl, rfl⟩
/-- An expression told, by its option. -/
theorem xprint {x : Option Ex} (hx : XOk x) {b : Nat} {v : XV} (w : World) (h : XO w b x v.c) (hT : Tabs w) : Calls Tryz.prog 94 #[.agg #[.string v.o, .string v.nm, .int .i64 v.n, .slice v.A v.ll v.cap, .int .i64 v.p]] w (TlP (shO x) w) := by
  obtain ⟨e, rfl, h1, h2⟩ := hx
  exact print_any h1 w h hT h2
theorem xok_len {x : Option Ex} (hx : XOk x) : (shO x).length ≤ 1000000 := by
  obtain ⟨e, rfl, _, h2⟩ := hx
  exact h2
set_option maxHeartbeats 2000000 in
set_option maxRecDepth 100000 in
theorem tdef_any {x : Option Ex} (hx : XOk x) {b : Nat} {v : XV} (w : World) (wd nm : ByteArray) (h : XO w b x v.c) (hT : Tabs w) (hw : wd.size ≤ 100) (hn : nm.size ≤ 1000010) :
    Calls Tryz.prog 59 #[.string wd, .string nm, .agg #[.string v.o, .string v.nm, .int .i64 v.n, .slice v.A v.ll v.cap, .int .i64 v.p]] w (TlP (wd.data.toList ++ 32 :: (nm.data.toList ++ ([32, 61, 32] ++ (shO x ++ [59, 10])))) w) := by
  have HC := Lib.hid (fun (W : World) (hW : XO W b x v.c) (hTW : Tabs W) => xprint hx W hW hTW)
  obtain ⟨t, ht, hts⟩ := str_ofM (shO x) 1000000 (xok_len hx)
  have HT := Lib.hid ht
  have hba : Below w.heap.size w (w.alloc (.cells #[.string v.o, .string v.nm, .int .i64 v.n, .slice v.A v.ll v.cap, .int .i64 v.p] 57)) := (Below.refl _ _).alloc (Nat.le_refl _) _
  have HL := Lib.hid (show XO (w.alloc (.cells #[.string v.o, .string v.nm, .int .i64 v.n, .slice v.A v.ll v.cap, .int .i64 v.p] 57)) b x v.c ∧ Tabs (w.alloc (.cells #[.string v.o, .string v.nm, .int .i64 v.n, .slice v.A v.ll v.cap, .int .i64 v.p] 57)) from ⟨h.keep (Kt.below (E := E0) hba) id, tabs_on hT hba⟩)
  have HB := Lib.hid hba
  have n1 : ¬ 9223372036854775807 < wd.size + 1 := by omega
  have n2 : ¬ 9223372036854775807 < wd.size + 1 + nm.size := by omega
  have n3 : ¬ 9223372036854775807 < wd.size + 1 + nm.size + 3 := by omega
  have n4 : ¬ 9223372036854775807 < wd.size + 1 + nm.size + 3 + t.size := by omega
  have n5 : ¬ 9223372036854775807 < wd.size + 1 + nm.size + 3 + t.size + 1 := by omega
  have HSZ := Lib.hid (show (wd ++ (⟨#[32]⟩ : ByteArray) ++ nm ++ (⟨#[32, 61, 32]⟩ : ByteArray) ++ t ++ (⟨#[59]⟩ : ByteArray)).size ≤ 100000000 by
    simp only [ByteArray.size_append]
    show wd.size + 1 + nm.size + 3 + t.size + 1 ≤ _
    omega)
  clear hx h hT ht hba
  go_enter Tryz.func59, Tryz.ntmps59
  go_wp2_with fail
  refine (HC.out _ HL.out.1 HL.out.2).mono ?_
  rintro e w1 ⟨rfl, hb1⟩
  rw [show strV (shO x) = .string t from by rw [← HT.out]; rfl]
  have HB1 := Lib.hid (HB.out.trans (hb1.mono HB.out.size))
  clear hb1
  go_wp2_with fail
  refine (mline_any _ _ HSZ.out).mono ?_
  rintro e w2 ⟨rfl, rfl⟩
  go_wp2
  go_ret
  exact ⟨ret_strM (by simp [HT.out]), HB1.out⟩
end Go.Proofs.YtodijgndbjfbgaaGreatDoor
