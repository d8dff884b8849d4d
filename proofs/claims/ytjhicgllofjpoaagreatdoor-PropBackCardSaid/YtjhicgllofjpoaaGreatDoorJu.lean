/-
  A question told: Ask, walked.
-/
import Derived.Test.YtjhicgllofjpoaaGreatDoorJt
namespace Go.Proofs.YtjhicgllofjpoaaGreatDoor
open Go.RowKit Go.Sort

/-- How a question is told. -/
def tlQ (k : List UInt8) (x : Fo) : List UInt8 := k ++ ([32, 91, 32] ++ (tlF x ++ [32, 93]))
def AskP (k : ByteArray) (x : Fo) (w : World) (e : Ending) (w' : World) : Prop := e = .returned (.string ⟨(tlQ k.data.toList x).toArray⟩) ∧ Below w.heap.size w w'
theorem ask_text (k : ByteArray) (x : Fo) : k ++ (⟨#[32, 91, 32]⟩ : ByteArray) ++ ⟨(tlF x).toArray⟩ ++ (⟨#[32, 93]⟩ : ByteArray) = ⟨(tlQ k.data.toList x).toArray⟩ := by
  apply ByteArray.ext
  simp [tlQ]
set_option maxHeartbeats 2000000 in
set_option maxRecDepth 100000 in
theorem pask_any {x : Fo} (hx : OkF x) {S : Nat → Prop} {k o nm : ByteArray} {p q : Int} {A : Option Addr} {ll cap : Nat} (w : World) (hH : FS w 25 S x (FV.c ⟨o, nm, A, ll, cap, p⟩)) (hl : (tlF x).length ≤ 1000000) (hk : k.size ≤ 100) :
    Calls Tryz.prog 22 #[.agg #[.string k, .string o, .string nm, .slice A ll cap, .int .i64 p, .int .i64 q]] w (AskP k x w) := by
  have H := Lib.hid (fun (W : World) (hW : FS W 25 S x (FV.c ⟨o, nm, A, ll, cap, p⟩)) => fprint_any hx W hW hl)
  have HE := Lib.hid (ask_text k x)
  have ht : (⟨(tlF x).toArray⟩ : ByteArray).size ≤ 1000000 := by show (tlF x).toArray.size ≤ _; simpa using hl
  generalize (⟨(tlF x).toArray⟩ : ByteArray) = t at H HE ht
  have hB := Bx.new w 53 [.string k, .string o, .string nm, .slice A ll cap, .int .i64 p, .int .i64 q]
  have hb : Below w.heap.size w (w.alloc (.cells [.string k, .string o, .string nm, .slice A ll cap, .int .i64 p, .int .i64 q].toArray 53)) := (Below.refl _ _).alloc (Nat.le_refl _) _
  have hh := hH.below hb
  have n1 : ¬ 9223372036854775807 < k.size + 3 := by omega
  have n2 : ¬ 9223372036854775807 < k.size + 3 + t.size := by omega
  have n3 : ¬ 9223372036854775807 < k.size + 3 + t.size + 2 := by omega
  clear hx hH hl
  go_enter Tryz.func22, Tryz.ntmps22
  go_wp2_with fail
  change Below w.heap.size w (w.alloc (.cells #[.string k, .string o, .string nm, .slice A ll cap, .int .i64 p, .int .i64 q] 53)) at hb
  change Bx (w.alloc (.cells #[.string k, .string o, .string nm, .slice A ll cap, .int .i64 p, .int .i64 q] 53)) _ _ _ at hB
  change FS (w.alloc (.cells #[.string k, .string o, .string nm, .slice A ll cap, .int .i64 p, .int .i64 q] 53)) _ _ _ _ at hh
  generalize w.alloc (.cells #[.string k, .string o, .string nm, .slice A ll cap, .int .i64 p, .int .i64 q] 53) = W at *
  have c0 := hB.cell 0
  have c1 := hB.cell 1
  have c2 := hB.cell 2
  have c3 := hB.cell 3
  have c4 := hB.cell 4
  have hlt := hB.lt
  simp only [List.getElem?_cons_zero, List.getElem?_cons_succ] at c0 c1 c2 c3 c4
  have HB := Lib.hid hB
  have HBb := Lib.hid hb
  have HH := Lib.hid hh
  clear hB hb hh
  go_region_law (first
    | (go_simp
       go_at_call 13
       refine (H.out _ HH.out.drew).mono ?_
       rintro e w2 ⟨rfl, hb2⟩
       have c0 := (HB.out.below ((Below.refl _ _).drew.trans hb2)).cell 0
       have hlt2 := (HB.out.below ((Below.refl _ _).drew.trans hb2)).lt
       simp only [List.getElem?_cons_zero] at c0
       have HB2 := Lib.hid (HBb.out.trans (((Below.refl _ _).drew.trans hb2).mono HBb.out.size))
       clear hb2))
  all_goals
    go_wp2
    go_ret
    exact ⟨by show Ending.returned (.string _) = _; rw [HE.out], HB2.out⟩
end Go.Proofs.YtjhicgllofjpoaaGreatDoor
