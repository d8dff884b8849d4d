/-
  kidsOf, isFormula, walked.
-/
import Derived.Test.YtkddaobbjfnckaaGreatDoorO4
import Derived.Test.YtkddaobbjfnckaaGreatDoorJ7
import Derived.Deep.RegionHeld3
namespace Go.Proofs.YtkddaobbjfnckaaGreatDoor
open Go.RowKit

def KoP (n : Nat) (w : World) (e : Ending) (w' : World) : Prop := e = .returned (.int .i64 (n : Int)) ∧ w' = w
theorem kids_of0 (s : ByteArray) (w : World) (h : s.toList = [116, 114, 117, 101]) : Calls Tryz.prog 47 #[.string s] w (KoP 0 w) := by
  have g0 : (s.toList == [116, 114, 117, 101]) = true := by rw [h]; rfl
  have g1 : (s.toList == [102, 97, 108, 115, 101]) = false := by rw [h]; rfl
  have g2 : (s.toList == [108, 97, 98, 101, 108]) = false := by rw [h]; rfl
  have g3 : (s.toList == [33]) = false := by rw [h]; rfl
  have g4 : (s.toList == [88]) = false := by rw [h]; rfl
  have g5 : (s.toList == [70]) = false := by rw [h]; rfl
  have g6 : (s.toList == [71]) = false := by rw [h]; rfl
  have g7 : (s.toList == [38]) = false := by rw [h]; rfl
  have g8 : (s.toList == [124]) = false := by rw [h]; rfl
  have g9 : (s.toList == [61, 62]) = false := by rw [h]; rfl
  have g10 : (s.toList == [85]) = false := by rw [h]; rfl
  have g11 : (s.toList == [87]) = false := by rw [h]; rfl
  have g12 : (s.toList == [82]) = false := by rw [h]; rfl
  clear h
  go_enter Tryz.func47, Tryz.ntmps47
  go_wp2
  go_ret
  exact ⟨rfl, rfl⟩
theorem kids_of1 (s : ByteArray) (w : World) (h : s.toList = [102, 97, 108, 115, 101]) : Calls Tryz.prog 47 #[.string s] w (KoP 0 w) := by
  have g0 : (s.toList == [116, 114, 117, 101]) = false := by rw [h]; rfl
  have g1 : (s.toList == [102, 97, 108, 115, 101]) = true := by rw [h]; rfl
  have g2 : (s.toList == [108, 97, 98, 101, 108]) = false := by rw [h]; rfl
  have g3 : (s.toList == [33]) = false := by rw [h]; rfl
  have g4 : (s.toList == [88]) = false := by rw [h]; rfl
  have g5 : (s.toList == [70]) = false := by rw [h]; rfl
  have g6 : (s.toList == [71]) = false := by rw [h]; rfl
  have g7 : (s.toList == [38]) = false := by rw [h]; rfl
  have g8 : (s.toList == [124]) = false := by rw [h]; rfl
  have g9 : (s.toList == [61, 62]) = false := by rw [h]; rfl
  have g10 : (s.toList == [85]) = false := by rw [h]; rfl
  have g11 : (s.toList == [87]) = false := by rw [h]; rfl
  have g12 : (s.toList == [82]) = false := by rw [h]; rfl
  clear h
  go_enter Tryz.func47, Tryz.ntmps47
  go_wp2
  go_ret
  exact ⟨rfl, rfl⟩
theorem kids_of2 (s : ByteArray) (w : World) (h : s.toList = [108, 97, 98, 101, 108]) : Calls Tryz.prog 47 #[.string s] w (KoP 0 w) := by
  have g0 : (s.toList == [116, 114, 117, 101]) = false := by rw [h]; rfl
  have g1 : (s.toList == [102, 97, 108, 115, 101]) = false := by rw [h]; rfl
  have g2 : (s.toList == [108, 97, 98, 101, 108]) = true := by rw [h]; rfl
  have g3 : (s.toList == [33]) = false := by rw [h]; rfl
  have g4 : (s.toList == [88]) = false := by rw [h]; rfl
  have g5 : (s.toList == [70]) = false := by rw [h]; rfl
  have g6 : (s.toList == [71]) = false := by rw [h]; rfl
  have g7 : (s.toList == [38]) = false := by rw [h]; rfl
  have g8 : (s.toList == [124]) = false := by rw [h]; rfl
  have g9 : (s.toList == [61, 62]) = false := by rw [h]; rfl
  have g10 : (s.toList == [85]) = false := by rw [h]; rfl
  have g11 : (s.toList == [87]) = false := by rw [h]; rfl
  have g12 : (s.toList == [82]) = false := by rw [h]; rfl
  clear h
  go_enter Tryz.func47, Tryz.ntmps47
  go_wp2
  go_ret
  exact ⟨rfl, rfl⟩
theorem kids_of3 (s : ByteArray) (w : World) (h : s.toList = [33]) : Calls Tryz.prog 47 #[.string s] w (KoP 1 w) := by
  have g0 : (s.toList == [116, 114, 117, 101]) = false := by rw [h]; rfl
  have g1 : (s.toList == [102, 97, 108, 115, 101]) = false := by rw [h]; rfl
  have g2 : (s.toList == [108, 97, 98, 101, 108]) = false := by rw [h]; rfl
  have g3 : (s.toList == [33]) = true := by rw [h]; rfl
  have g4 : (s.toList == [88]) = false := by rw [h]; rfl
  have g5 : (s.toList == [70]) = false := by rw [h]; rfl
  have g6 : (s.toList == [71]) = false := by rw [h]; rfl
  have g7 : (s.toList == [38]) = false := by rw [h]; rfl
  have g8 : (s.toList == [124]) = false := by rw [h]; rfl
  have g9 : (s.toList == [61, 62]) = false := by rw [h]; rfl
  have g10 : (s.toList == [85]) = false := by rw [h]; rfl
  have g11 : (s.toList == [87]) = false := by rw [h]; rfl
  have g12 : (s.toList == [82]) = false := by rw [h]; rfl
  clear h
  go_enter Tryz.func47, Tryz.ntmps47
  go_wp2
  go_ret
  exact ⟨rfl, rfl⟩
theorem kids_of4 (s : ByteArray) (w : World) (h : s.toList = [88]) : Calls Tryz.prog 47 #[.string s] w (KoP 1 w) := by
  have g0 : (s.toList == [116, 114, 117, 101]) = false := by rw [h]; rfl
  have g1 : (s.toList == [102, 97, 108, 115, 101]) = false := by rw [h]; rfl
  have g2 : (s.toList == [108, 97, 98, 101, 108]) = false := by rw [h]; rfl
  have g3 : (s.toList == [33]) = false := by rw [h]; rfl
  have g4 : (s.toList == [88]) = true := by rw [h]; rfl
  have g5 : (s.toList == [70]) = false := by rw [h]; rfl
  have g6 : (s.toList == [71]) = false := by rw [h]; rfl
  have g7 : (s.toList == [38]) = false := by rw [h]; rfl
  have g8 : (s.toList == [124]) = false := by rw [h]; rfl
  have g9 : (s.toList == [61, 62]) = false := by rw [h]; rfl
  have g10 : (s.toList == [85]) = false := by rw [h]; rfl
  have g11 : (s.toList == [87]) = false := by rw [h]; rfl
  have g12 : (s.toList == [82]) = false := by rw [h]; rfl
  clear h
  go_enter Tryz.func47, Tryz.ntmps47
  go_wp2
  go_ret
  exact ⟨rfl, rfl⟩
theorem kids_of5 (s : ByteArray) (w : World) (h : s.toList = [70]) : Calls Tryz.prog 47 #[.string s] w (KoP 1 w) := by
  have g0 : (s.toList == [116, 114, 117, 101]) = false := by rw [h]; rfl
  have g1 : (s.toList == [102, 97, 108, 115, 101]) = false := by rw [h]; rfl
  have g2 : (s.toList == [108, 97, 98, 101, 108]) = false := by rw [h]; rfl
  have g3 : (s.toList == [33]) = false := by rw [h]; rfl
  have g4 : (s.toList == [88]) = false := by rw [h]; rfl
  have g5 : (s.toList == [70]) = true := by rw [h]; rfl
  have g6 : (s.toList == [71]) = false := by rw [h]; rfl
  have g7 : (s.toList == [38]) = false := by rw [h]; rfl
  have g8 : (s.toList == [124]) = false := by rw [h]; rfl
  have g9 : (s.toList == [61, 62]) = false := by rw [h]; rfl
  have g10 : (s.toList == [85]) = false := by rw [h]; rfl
  have g11 : (s.toList == [87]) = false := by rw [h]; rfl
  have g12 : (s.toList == [82]) = false := by rw [h]; rfl
  clear h
  go_enter Tryz.func47, Tryz.ntmps47
  go_wp2
  go_ret
  exact ⟨rfl, rfl⟩
theorem kids_of6 (s : ByteArray) (w : World) (h : s.toList = [71]) : Calls Tryz.prog 47 #[.string s] w (KoP 1 w) := by
  have g0 : (s.toList == [116, 114, 117, 101]) = false := by rw [h]; rfl
  have g1 : (s.toList == [102, 97, 108, 115, 101]) = false := by rw [h]; rfl
  have g2 : (s.toList == [108, 97, 98, 101, 108]) = false := by rw [h]; rfl
  have g3 : (s.toList == [33]) = false := by rw [h]; rfl
  have g4 : (s.toList == [88]) = false := by rw [h]; rfl
  have g5 : (s.toList == [70]) = false := by rw [h]; rfl
  have g6 : (s.toList == [71]) = true := by rw [h]; rfl
  have g7 : (s.toList == [38]) = false := by rw [h]; rfl
  have g8 : (s.toList == [124]) = false := by rw [h]; rfl
  have g9 : (s.toList == [61, 62]) = false := by rw [h]; rfl
  have g10 : (s.toList == [85]) = false := by rw [h]; rfl
  have g11 : (s.toList == [87]) = false := by rw [h]; rfl
  have g12 : (s.toList == [82]) = false := by rw [h]; rfl
  clear h
  go_enter Tryz.func47, Tryz.ntmps47
  go_wp2
  go_ret
  exact ⟨rfl, rfl⟩
theorem kids_of7 (s : ByteArray) (w : World) (h : s.toList = [38]) : Calls Tryz.prog 47 #[.string s] w (KoP 2 w) := by
  have g0 : (s.toList == [116, 114, 117, 101]) = false := by rw [h]; rfl
  have g1 : (s.toList == [102, 97, 108, 115, 101]) = false := by rw [h]; rfl
  have g2 : (s.toList == [108, 97, 98, 101, 108]) = false := by rw [h]; rfl
  have g3 : (s.toList == [33]) = false := by rw [h]; rfl
  have g4 : (s.toList == [88]) = false := by rw [h]; rfl
  have g5 : (s.toList == [70]) = false := by rw [h]; rfl
  have g6 : (s.toList == [71]) = false := by rw [h]; rfl
  have g7 : (s.toList == [38]) = true := by rw [h]; rfl
  have g8 : (s.toList == [124]) = false := by rw [h]; rfl
  have g9 : (s.toList == [61, 62]) = false := by rw [h]; rfl
  have g10 : (s.toList == [85]) = false := by rw [h]; rfl
  have g11 : (s.toList == [87]) = false := by rw [h]; rfl
  have g12 : (s.toList == [82]) = false := by rw [h]; rfl
  clear h
  go_enter Tryz.func47, Tryz.ntmps47
  go_wp2
  go_ret
  exact ⟨rfl, rfl⟩
theorem kids_of8 (s : ByteArray) (w : World) (h : s.toList = [124]) : Calls Tryz.prog 47 #[.string s] w (KoP 2 w) := by
  have g0 : (s.toList == [116, 114, 117, 101]) = false := by rw [h]; rfl
  have g1 : (s.toList == [102, 97, 108, 115, 101]) = false := by rw [h]; rfl
  have g2 : (s.toList == [108, 97, 98, 101, 108]) = false := by rw [h]; rfl
  have g3 : (s.toList == [33]) = false := by rw [h]; rfl
  have g4 : (s.toList == [88]) = false := by rw [h]; rfl
  have g5 : (s.toList == [70]) = false := by rw [h]; rfl
  have g6 : (s.toList == [71]) = false := by rw [h]; rfl
  have g7 : (s.toList == [38]) = false := by rw [h]; rfl
  have g8 : (s.toList == [124]) = true := by rw [h]; rfl
  have g9 : (s.toList == [61, 62]) = false := by rw [h]; rfl
  have g10 : (s.toList == [85]) = false := by rw [h]; rfl
  have g11 : (s.toList == [87]) = false := by rw [h]; rfl
  have g12 : (s.toList == [82]) = false := by rw [h]; rfl
  clear h
  go_enter Tryz.func47, Tryz.ntmps47
  go_wp2
  go_ret
  exact ⟨rfl, rfl⟩
theorem kids_of9 (s : ByteArray) (w : World) (h : s.toList = [61, 62]) : Calls Tryz.prog 47 #[.string s] w (KoP 2 w) := by
  have g0 : (s.toList == [116, 114, 117, 101]) = false := by rw [h]; rfl
  have g1 : (s.toList == [102, 97, 108, 115, 101]) = false := by rw [h]; rfl
  have g2 : (s.toList == [108, 97, 98, 101, 108]) = false := by rw [h]; rfl
  have g3 : (s.toList == [33]) = false := by rw [h]; rfl
  have g4 : (s.toList == [88]) = false := by rw [h]; rfl
  have g5 : (s.toList == [70]) = false := by rw [h]; rfl
  have g6 : (s.toList == [71]) = false := by rw [h]; rfl
  have g7 : (s.toList == [38]) = false := by rw [h]; rfl
  have g8 : (s.toList == [124]) = false := by rw [h]; rfl
  have g9 : (s.toList == [61, 62]) = true := by rw [h]; rfl
  have g10 : (s.toList == [85]) = false := by rw [h]; rfl
  have g11 : (s.toList == [87]) = false := by rw [h]; rfl
  have g12 : (s.toList == [82]) = false := by rw [h]; rfl
  clear h
  go_enter Tryz.func47, Tryz.ntmps47
  go_wp2
  go_ret
  exact ⟨rfl, rfl⟩
theorem kids_of10 (s : ByteArray) (w : World) (h : s.toList = [85]) : Calls Tryz.prog 47 #[.string s] w (KoP 2 w) := by
  have g0 : (s.toList == [116, 114, 117, 101]) = false := by rw [h]; rfl
  have g1 : (s.toList == [102, 97, 108, 115, 101]) = false := by rw [h]; rfl
  have g2 : (s.toList == [108, 97, 98, 101, 108]) = false := by rw [h]; rfl
  have g3 : (s.toList == [33]) = false := by rw [h]; rfl
  have g4 : (s.toList == [88]) = false := by rw [h]; rfl
  have g5 : (s.toList == [70]) = false := by rw [h]; rfl
  have g6 : (s.toList == [71]) = false := by rw [h]; rfl
  have g7 : (s.toList == [38]) = false := by rw [h]; rfl
  have g8 : (s.toList == [124]) = false := by rw [h]; rfl
  have g9 : (s.toList == [61, 62]) = false := by rw [h]; rfl
  have g10 : (s.toList == [85]) = true := by rw [h]; rfl
  have g11 : (s.toList == [87]) = false := by rw [h]; rfl
  have g12 : (s.toList == [82]) = false := by rw [h]; rfl
  clear h
  go_enter Tryz.func47, Tryz.ntmps47
  go_wp2
  go_ret
  exact ⟨rfl, rfl⟩
theorem kids_of11 (s : ByteArray) (w : World) (h : s.toList = [87]) : Calls Tryz.prog 47 #[.string s] w (KoP 2 w) := by
  have g0 : (s.toList == [116, 114, 117, 101]) = false := by rw [h]; rfl
  have g1 : (s.toList == [102, 97, 108, 115, 101]) = false := by rw [h]; rfl
  have g2 : (s.toList == [108, 97, 98, 101, 108]) = false := by rw [h]; rfl
  have g3 : (s.toList == [33]) = false := by rw [h]; rfl
  have g4 : (s.toList == [88]) = false := by rw [h]; rfl
  have g5 : (s.toList == [70]) = false := by rw [h]; rfl
  have g6 : (s.toList == [71]) = false := by rw [h]; rfl
  have g7 : (s.toList == [38]) = false := by rw [h]; rfl
  have g8 : (s.toList == [124]) = false := by rw [h]; rfl
  have g9 : (s.toList == [61, 62]) = false := by rw [h]; rfl
  have g10 : (s.toList == [85]) = false := by rw [h]; rfl
  have g11 : (s.toList == [87]) = true := by rw [h]; rfl
  have g12 : (s.toList == [82]) = false := by rw [h]; rfl
  clear h
  go_enter Tryz.func47, Tryz.ntmps47
  go_wp2
  go_ret
  exact ⟨rfl, rfl⟩
theorem kids_of12 (s : ByteArray) (w : World) (h : s.toList = [82]) : Calls Tryz.prog 47 #[.string s] w (KoP 2 w) := by
  have g0 : (s.toList == [116, 114, 117, 101]) = false := by rw [h]; rfl
  have g1 : (s.toList == [102, 97, 108, 115, 101]) = false := by rw [h]; rfl
  have g2 : (s.toList == [108, 97, 98, 101, 108]) = false := by rw [h]; rfl
  have g3 : (s.toList == [33]) = false := by rw [h]; rfl
  have g4 : (s.toList == [88]) = false := by rw [h]; rfl
  have g5 : (s.toList == [70]) = false := by rw [h]; rfl
  have g6 : (s.toList == [71]) = false := by rw [h]; rfl
  have g7 : (s.toList == [38]) = false := by rw [h]; rfl
  have g8 : (s.toList == [124]) = false := by rw [h]; rfl
  have g9 : (s.toList == [61, 62]) = false := by rw [h]; rfl
  have g10 : (s.toList == [85]) = false := by rw [h]; rfl
  have g11 : (s.toList == [87]) = false := by rw [h]; rfl
  have g12 : (s.toList == [82]) = true := by rw [h]; rfl
  clear h
  go_enter Tryz.func47, Tryz.ntmps47
  go_wp2
  go_ret
  exact ⟨rfl, rfl⟩
theorem kids_any {x : Fo} (h : OkF x) (s : ByteArray) (hs : s.toList = x.op) (w : World) : Calls Tryz.prog 47 #[.string s] w (KoP x.kids.length w) := by
  cases x with
  | leaf op nm p =>
    rcases h with ⟨rfl, _⟩ | ⟨rfl | rfl, _⟩
    · exact kids_of2 s w hs
    · exact kids_of0 s w hs
    · exact kids_of1 s w hs
  | un op a p =>
    rcases pk_un h.1 with rfl | rfl | rfl | rfl
    · exact kids_of3 s w hs
    · exact kids_of4 s w hs
    · exact kids_of5 s w hs
    · exact kids_of6 s w hs
  | bin op a b p =>
    rcases pk_bin h.1 with rfl | rfl | rfl | rfl | rfl | rfl
    · exact kids_of9 s w hs
    · exact kids_of8 s w hs
    · exact kids_of7 s w hs
    · exact kids_of10 s w hs
    · exact kids_of11 s w hs
    · exact kids_of12 s w hs
/-- isFormula says yes. -/
def IsF (x : Fo) : Prop := ∀ (w : World) (S : Nat → Prop) (c : List Value), FS w 27 S x c → Calls Tryz.prog 32 #[.agg c.toArray] w (BoolP true w)
def IfRel (n : Nat) (w : World) (i : Value) (wr : World) : Prop := ∃ k : Nat, i = .int .i64 (k : Int) ∧ k ≤ n ∧ Below w.heap.size w wr
theorem isclo_any {x : Fo} (h : IsF x) {v : FV} {S : Nat → Prop} (w : World) (hx : FS w 27 S x v.c) : Calls Tryz.prog 49 #[.agg #[.string v.o, .string v.nm, .slice v.A v.ll v.cap, .int .i64 v.p]] w (BoolP false w) := by
  have H := Lib.hid (h (w.alloc (.cells #[.string v.o, .string v.nm, .slice v.A v.ll v.cap, .int .i64 v.p] 27)) S _ (hx.alloc _))
  clear h hx
  go_enter Tryz.func49, Tryz.ntmps49
  go_wp2_with fail
  refine (H.out).mono ?_
  rintro e w1 ⟨rfl, hb⟩
  have HB := Lib.hid (below_t (below_alloc _ _) hb)
  clear hb
  go_wp2
  go_ret
  exact ⟨rfl, HB.out⟩
set_option maxHeartbeats 2000000 in
theorem idxf_any {ks : List Fo} (ih : ∀ x ∈ ks, IsF x) {A : Option Addr} {c1 : Nat} {S : Nat → Prop} (w : World) (hA : FK w 27 S A ks) (hl : ks.length ≤ 3) : Calls Tryz.prog 79 #[.slice A ks.length c1, .func (.func 49) #[] #[]] w fun e w' => e = .returned (.int .i64 (-1)) ∧ Below w.heap.size w w' := by
  have HA := Lib.hid hA
  have HI := Lib.hid ih
  obtain ⟨n, hn⟩ : ∃ n, n = ks.length := ⟨_, rfl⟩
  rw [← hn] at hl ⊢
  have HN := Lib.hid hn
  clear hA ih hn
  go_enter Tryz.func79, Tryz.ntmps79
  go_wp2
  go_loopw [8] (fun i wr => IfRel n w i wr) (fun i _ => n - (intOf i).toNat)
  case atStart => exact ⟨0, rfl, Nat.zero_le _, Below.refl _ _⟩
  case round =>
    obtain ⟨k, rfl, hk, hb⟩ := hrel
    by_cases hlt : k < n
    · have g2 : decide (k < n) = true := by simp; omega
      have k1 : k < ks.length := by rw [← HN.out]; exact hlt
      obtain ⟨g, v, rfl, hg, hH, a0, a1, a2, a3⟩ := HA.out.below hb k k1
      have H1 := Lib.hid (isclo_any (HI.out _ (List.getElem_mem k1)) wr hH)
      have HBb := Lib.hid hb
      obtain ⟨o, nm, P, l, cp, p⟩ := v
      have HAA := Lib.hid HA
      clear HA hH hb hk
      go_wp2_with fail
      refine (H1.out).mono ?_
      rintro e w3 ⟨rfl, hb3⟩
      have HB3 := Lib.hid (below_t HBb.out hb3)
      clear hb3
      go_wp2
      go_roundw
      case rel => exact ⟨k + 1, by go_num, by omega, HB3.out⟩
      case measure => simp [intOf]; omega
    · have g2 : decide (k < n) = false := by simp; omega
      have HBb := Lib.hid hb
      clear hb hk
      go_wp2
      go_ret
      exact ⟨rfl, HBb.out⟩
theorem conf_any {ks : List Fo} (ih : ∀ x ∈ ks, IsF x) {A : Option Addr} {c1 : Nat} {S : Nat → Prop} (w : World) (hA : FK w 27 S A ks) (hl : ks.length ≤ 3) : Calls Tryz.prog 48 #[.slice A ks.length c1, .func (.func 49) #[] #[]] w (BoolP false w) := by
  have H := Lib.hid (idxf_any (c1 := c1) ih w hA hl)
  generalize ks.length = n at *
  clear ih hA
  go_enter Tryz.func48, Tryz.ntmps48
  go_wp2_with fail
  refine (H.out).mono ?_
  rintro e w1 ⟨rfl, hb⟩
  have HB := Lib.hid hb
  clear hb
  go_wp2
  go_ret
  exact ⟨rfl, HB.out⟩
set_option maxHeartbeats 4000000 in
theorem isf_of {x : Fo} (hx : OkF x) (ih : ∀ y ∈ x.kids, IsF y) : IsF x := by
  intro w S c hc
  obtain ⟨A, cap, rfl, hA⟩ := hc.view
  have HK := Lib.hid (fun (W : World) => kids_any hx ⟨x.op.toArray⟩ (by rw [ByteArray.toList_eq]) W)
  have hl := kids3F x
  obtain ⟨W0, hW0⟩ : ∃ W0, W0 = w.alloc (.cells #[.string ⟨x.op.toArray⟩, .string ⟨x.nm.toArray⟩, .slice A x.kids.length cap, .int .i64 (x.pos : Int)] 27) := ⟨_, rfl⟩
  have hbw : Below w.heap.size w W0 := by rw [hW0]; exact below_alloc _ _
  have hbx : Bx W0 w.heap.size 27 [.string ⟨x.op.toArray⟩, .string ⟨x.nm.toArray⟩, .slice A x.kids.length cap, .int .i64 (x.pos : Int)] := by rw [hW0]; exact Bx.new _ _ _
  have HC := Lib.hid (fun (W : World) (hW : Below W0.heap.size W0 W) => conf_any (c1 := cap) ih W (hA.below (below_t hbw hW)) hl)
  have HSS := Lib.hid (show ∀ W, Below W0.heap.size W0 W → (W.cell? ⟨w.heap.size, 0, none⟩ = some (.string ⟨x.op.toArray⟩) ∧ W.cell? ⟨w.heap.size, 2, none⟩ = some (.slice A x.kids.length cap)) from fun W hW => ⟨((hbx.below hW).cell 0).trans rfl, ((hbx.below hW).cell 2).trans rfl⟩)
  have HBW := Lib.hid hbw
  obtain ⟨p, hp⟩ : ∃ p : Int, p = (x.pos : Int) := ⟨_, rfl⟩
  show Calls Tryz.prog 32 #[.agg #[.string ⟨x.op.toArray⟩, .string ⟨x.nm.toArray⟩, .slice A x.kids.length cap, .int .i64 (x.pos : Int)]] w _
  rw [← hp] at hW0 ⊢
  clear hx ih hc hA hbw hbx hp
  generalize (⟨x.op.toArray⟩ : ByteArray) = o at *
  generalize (⟨x.nm.toArray⟩ : ByteArray) = nm at *
  generalize x.kids.length = n at *
  clear x
  have lk : Below W0.heap.size W0 W0.drew := (Below.refl _ _).drew
  subst hW0
  go_enter Tryz.func32, Tryz.ntmps32
  go_wp2_with fail
  go_region_held3 (fun w' => w'.cell? ⟨w.heap.size, 0, none⟩ = some (.string o) ∧ w'.cell? ⟨w.heap.size, 2, none⟩ = some (.slice A n cap)) (exact HSS.out _ lk) (first
    | (go_at_call 47
       refine (HK.out _).mono ?_
       rintro e w1 ⟨rfl, rfl⟩)
    | (go_at_call 48
       refine (HC.out _ lk).mono ?_
       rintro e w1 ⟨rfl, hb1⟩
       replace lk : Below (w.alloc (.cells #[.string o, .string nm, .slice A n cap, .int .i64 p] 27)).heap.size (w.alloc (.cells #[.string o, .string nm, .slice A n cap, .int .i64 p] 27)) w1 := lk.trans (hb1.mono lk.size)))
  all_goals
    have HL := Lib.hid (below_t HBW.out lk)
    clear lk
    go_wp2
    go_ret
    exact ⟨rfl, HL.out⟩
theorem isf_any : ∀ x : Fo, OkF x → IsF x
  | .leaf _ _ _, h => isf_of h (by simp [Fo.kids])
  | .un _ a _, h => isf_of h (by simp only [Fo.kids, List.mem_singleton]; rintro x rfl; exact isf_any x h.2)
  | .bin _ a b _, h => isf_of h (by
      have h1 := isf_any a h.2.1
      have h2 := isf_any b h.2.2
      simp only [Fo.kids, List.mem_cons, List.not_mem_nil, or_false]
      rintro x (rfl | rfl) <;> assumption)
end Go.Proofs.YtkddaobbjfnckaaGreatDoor
