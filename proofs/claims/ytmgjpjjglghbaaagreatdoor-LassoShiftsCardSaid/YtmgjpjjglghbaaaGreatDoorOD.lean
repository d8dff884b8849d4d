/-
  kidsOf, isFormula, walked. areLetters, walked. differ, isRight, Check; walked.
-/
import Derived.Test.YtmgjpjjglghbaaaGreatDoorOB
import Derived.Test.YtmgjpjjglghbaaaGreatDoorJ7
import Derived.Deep.RegionHeld3
import Derived.Test.YtmgjpjjglghbaaaGreatDoorOC
namespace Go.Proofs.YtmgjpjjglghbaaaGreatDoor
section
open Go.RowKit

def KoP (n : Nat) (w : World) (e : Ending) (w' : World) : Prop := e = .returned (.int .i64 (n : Int)) ∧ w' = w
theorem kids_of0 (s : ByteArray) (w : World) (h : s.toList = [116, 114, 117, 101]) : Calls Tryz.prog 70 #[.string s] w (KoP 0 w) := by
  have g0 : (s.toList == [116, 114, 117, 101]) = true := by rw [h]; rfl
  have g1 : (s.toList == [102, 97, 108, 115, 101]) = false := by rw [h]; rfl
  have g2 : (s.toList == [108, 97, 98, 101, 108]) = false := by rw [h]; rfl
  have g3 : (s.toList == [33]) = false := by rw [h]; rfl
  have g4 : (s.toList == [88]) = false := by rw [h]; rfl
  have g5 : (s.toList == [70]) = false := by rw [h]; rfl
  have g6 : (s.toList == [71]) = false := by rw [h]; rfl
  have g7 : (s.toList == [38]) = false := by rw [h]; rfl
  have g8 : (s.toList == [124]) = false := by rw [h]; rfl
  have g9 : (s.toList == [61, 62]) = false := by rw [h]; rfl
  have g10 : (s.toList == [85]) = false := by rw [h]; rfl
  have g11 : (s.toList == [87]) = false := by rw [h]; rfl
  have g12 : (s.toList == [82]) = false := by rw [h]; rfl
  clear h
  go_enter Tryz.func70, Tryz.ntmps70
  go_wp2
  go_ret
  exact ⟨rfl, rfl⟩
theorem kids_of1 (s : ByteArray) (w : World) (h : s.toList = [102, 97, 108, 115, 101]) : Calls Tryz.prog 70 #[.string s] w (KoP 0 w) := by
  have g0 : (s.toList == [116, 114, 117, 101]) = false := by rw [h]; rfl
  have g1 : (s.toList == [102, 97, 108, 115, 101]) = true := by rw [h]; rfl
  have g2 : (s.toList == [108, 97, 98, 101, 108]) = false := by rw [h]; rfl
  have g3 : (s.toList == [33]) = false := by rw [h]; rfl
  have g4 : (s.toList == [88]) = false := by rw [h]; rfl
  have g5 : (s.toList == [70]) = false := by rw [h]; rfl
  have g6 : (s.toList == [71]) = false := by rw [h]; rfl
  have g7 : (s.toList == [38]) = false := by rw [h]; rfl
  have g8 : (s.toList == [124]) = false := by rw [h]; rfl
  have g9 : (s.toList == [61, 62]) = false := by rw [h]; rfl
  have g10 : (s.toList == [85]) = false := by rw [h]; rfl
  have g11 : (s.toList == [87]) = false := by rw [h]; rfl
  have g12 : (s.toList == [82]) = false := by rw [h]; rfl
  clear h
  go_enter Tryz.func70, Tryz.ntmps70
  go_wp2
  go_ret
  exact ⟨rfl, rfl⟩
theorem kids_of2 (s : ByteArray) (w : World) (h : s.toList = [108, 97, 98, 101, 108]) : Calls Tryz.prog 70 #[.string s] w (KoP 0 w) := by
  have g0 : (s.toList == [116, 114, 117, 101]) = false := by rw [h]; rfl
  have g1 : (s.toList == [102, 97, 108, 115, 101]) = false := by rw [h]; rfl
  have g2 : (s.toList == [108, 97, 98, 101, 108]) = true := by rw [h]; rfl
  have g3 : (s.toList == [33]) = false := by rw [h]; rfl
  have g4 : (s.toList == [88]) = false := by rw [h]; rfl
  have g5 : (s.toList == [70]) = false := by rw [h]; rfl
  have g6 : (s.toList == [71]) = false := by rw [h]; rfl
  have g7 : (s.toList == [38]) = false := by rw [h]; rfl
  have g8 : (s.toList == [124]) = false := by rw [h]; rfl
  have g9 : (s.toList == [61, 62]) = false := by rw [h]; rfl
  have g10 : (s.toList == [85]) = false := by rw [h]; rfl
  have g11 : (s.toList == [87]) = false := by rw [h]; rfl
  have g12 : (s.toList == [82]) = false := by rw [h]; rfl
  clear h
  go_enter Tryz.func70, Tryz.ntmps70
  go_wp2
  go_ret
  exact ⟨rfl, rfl⟩
theorem kids_of3 (s : ByteArray) (w : World) (h : s.toList = [33]) : Calls Tryz.prog 70 #[.string s] w (KoP 1 w) := by
  have g0 : (s.toList == [116, 114, 117, 101]) = false := by rw [h]; rfl
  have g1 : (s.toList == [102, 97, 108, 115, 101]) = false := by rw [h]; rfl
  have g2 : (s.toList == [108, 97, 98, 101, 108]) = false := by rw [h]; rfl
  have g3 : (s.toList == [33]) = true := by rw [h]; rfl
  have g4 : (s.toList == [88]) = false := by rw [h]; rfl
  have g5 : (s.toList == [70]) = false := by rw [h]; rfl
  have g6 : (s.toList == [71]) = false := by rw [h]; rfl
  have g7 : (s.toList == [38]) = false := by rw [h]; rfl
  have g8 : (s.toList == [124]) = false := by rw [h]; rfl
  have g9 : (s.toList == [61, 62]) = false := by rw [h]; rfl
  have g10 : (s.toList == [85]) = false := by rw [h]; rfl
  have g11 : (s.toList == [87]) = false := by rw [h]; rfl
  have g12 : (s.toList == [82]) = false := by rw [h]; rfl
  clear h
  go_enter Tryz.func70, Tryz.ntmps70
  go_wp2
  go_ret
  exact ⟨rfl, rfl⟩
theorem kids_of4 (s : ByteArray) (w : World) (h : s.toList = [88]) : Calls Tryz.prog 70 #[.string s] w (KoP 1 w) := by
  have g0 : (s.toList == [116, 114, 117, 101]) = false := by rw [h]; rfl
  have g1 : (s.toList == [102, 97, 108, 115, 101]) = false := by rw [h]; rfl
  have g2 : (s.toList == [108, 97, 98, 101, 108]) = false := by rw [h]; rfl
  have g3 : (s.toList == [33]) = false := by rw [h]; rfl
  have g4 : (s.toList == [88]) = true := by rw [h]; rfl
  have g5 : (s.toList == [70]) = false := by rw [h]; rfl
  have g6 : (s.toList == [71]) = false := by rw [h]; rfl
  have g7 : (s.toList == [38]) = false := by rw [h]; rfl
  have g8 : (s.toList == [124]) = false := by rw [h]; rfl
  have g9 : (s.toList == [61, 62]) = false := by rw [h]; rfl
  have g10 : (s.toList == [85]) = false := by rw [h]; rfl
  have g11 : (s.toList == [87]) = false := by rw [h]; rfl
  have g12 : (s.toList == [82]) = false := by rw [h]; rfl
  clear h
  go_enter Tryz.func70, Tryz.ntmps70
  go_wp2
  go_ret
  exact ⟨rfl, rfl⟩
theorem kids_of5 (s : ByteArray) (w : World) (h : s.toList = [70]) : Calls Tryz.prog 70 #[.string s] w (KoP 1 w) := by
  have g0 : (s.toList == [116, 114, 117, 101]) = false := by rw [h]; rfl
  have g1 : (s.toList == [102, 97, 108, 115, 101]) = false := by rw [h]; rfl
  have g2 : (s.toList == [108, 97, 98, 101, 108]) = false := by rw [h]; rfl
  have g3 : (s.toList == [33]) = false := by rw [h]; rfl
  have g4 : (s.toList == [88]) = false := by rw [h]; rfl
  have g5 : (s.toList == [70]) = true := by rw [h]; rfl
  have g6 : (s.toList == [71]) = false := by rw [h]; rfl
  have g7 : (s.toList == [38]) = false := by rw [h]; rfl
  have g8 : (s.toList == [124]) = false := by rw [h]; rfl
  have g9 : (s.toList == [61, 62]) = false := by rw [h]; rfl
  have g10 : (s.toList == [85]) = false := by rw [h]; rfl
  have g11 : (s.toList == [87]) = false := by rw [h]; rfl
  have g12 : (s.toList == [82]) = false := by rw [h]; rfl
  clear h
  go_enter Tryz.func70, Tryz.ntmps70
  go_wp2
  go_ret
  exact ⟨rfl, rfl⟩
theorem kids_of6 (s : ByteArray) (w : World) (h : s.toList = [71]) : Calls Tryz.prog 70 #[.string s] w (KoP 1 w) := by
  have g0 : (s.toList == [116, 114, 117, 101]) = false := by rw [h]; rfl
  have g1 : (s.toList == [102, 97, 108, 115, 101]) = false := by rw [h]; rfl
  have g2 : (s.toList == [108, 97, 98, 101, 108]) = false := by rw [h]; rfl
  have g3 : (s.toList == [33]) = false := by rw [h]; rfl
  have g4 : (s.toList == [88]) = false := by rw [h]; rfl
  have g5 : (s.toList == [70]) = false := by rw [h]; rfl
  have g6 : (s.toList == [71]) = true := by rw [h]; rfl
  have g7 : (s.toList == [38]) = false := by rw [h]; rfl
  have g8 : (s.toList == [124]) = false := by rw [h]; rfl
  have g9 : (s.toList == [61, 62]) = false := by rw [h]; rfl
  have g10 : (s.toList == [85]) = false := by rw [h]; rfl
  have g11 : (s.toList == [87]) = false := by rw [h]; rfl
  have g12 : (s.toList == [82]) = false := by rw [h]; rfl
  clear h
  go_enter Tryz.func70, Tryz.ntmps70
  go_wp2
  go_ret
  exact ⟨rfl, rfl⟩
theorem kids_of7 (s : ByteArray) (w : World) (h : s.toList = [38]) : Calls Tryz.prog 70 #[.string s] w (KoP 2 w) := by
  have g0 : (s.toList == [116, 114, 117, 101]) = false := by rw [h]; rfl
  have g1 : (s.toList == [102, 97, 108, 115, 101]) = false := by rw [h]; rfl
  have g2 : (s.toList == [108, 97, 98, 101, 108]) = false := by rw [h]; rfl
  have g3 : (s.toList == [33]) = false := by rw [h]; rfl
  have g4 : (s.toList == [88]) = false := by rw [h]; rfl
  have g5 : (s.toList == [70]) = false := by rw [h]; rfl
  have g6 : (s.toList == [71]) = false := by rw [h]; rfl
  have g7 : (s.toList == [38]) = true := by rw [h]; rfl
  have g8 : (s.toList == [124]) = false := by rw [h]; rfl
  have g9 : (s.toList == [61, 62]) = false := by rw [h]; rfl
  have g10 : (s.toList == [85]) = false := by rw [h]; rfl
  have g11 : (s.toList == [87]) = false := by rw [h]; rfl
  have g12 : (s.toList == [82]) = false := by rw [h]; rfl
  clear h
  go_enter Tryz.func70, Tryz.ntmps70
  go_wp2
  go_ret
  exact ⟨rfl, rfl⟩
theorem kids_of8 (s : ByteArray) (w : World) (h : s.toList = [124]) : Calls Tryz.prog 70 #[.string s] w (KoP 2 w) := by
  have g0 : (s.toList == [116, 114, 117, 101]) = false := by rw [h]; rfl
  have g1 : (s.toList == [102, 97, 108, 115, 101]) = false := by rw [h]; rfl
  have g2 : (s.toList == [108, 97, 98, 101, 108]) = false := by rw [h]; rfl
  have g3 : (s.toList == [33]) = false := by rw [h]; rfl
  have g4 : (s.toList == [88]) = false := by rw [h]; rfl
  have g5 : (s.toList == [70]) = false := by rw [h]; rfl
  have g6 : (s.toList == [71]) = false := by rw [h]; rfl
  have g7 : (s.toList == [38]) = false := by rw [h]; rfl
  have g8 : (s.toList == [124]) = true := by rw [h]; rfl
  have g9 : (s.toList == [61, 62]) = false := by rw [h]; rfl
  have g10 : (s.toList == [85]) = false := by rw [h]; rfl
  have g11 : (s.toList == [87]) = false := by rw [h]; rfl
  have g12 : (s.toList == [82]) = false := by rw [h]; rfl
  clear h
  go_enter Tryz.func70, Tryz.ntmps70
  go_wp2
  go_ret
  exact ⟨rfl, rfl⟩
theorem kids_of9 (s : ByteArray) (w : World) (h : s.toList = [61, 62]) : Calls Tryz.prog 70 #[.string s] w (KoP 2 w) := by
  have g0 : (s.toList == [116, 114, 117, 101]) = false := by rw [h]; rfl
  have g1 : (s.toList == [102, 97, 108, 115, 101]) = false := by rw [h]; rfl
  have g2 : (s.toList == [108, 97, 98, 101, 108]) = false := by rw [h]; rfl
  have g3 : (s.toList == [33]) = false := by rw [h]; rfl
  have g4 : (s.toList == [88]) = false := by rw [h]; rfl
  have g5 : (s.toList == [70]) = false := by rw [h]; rfl
  have g6 : (s.toList == [71]) = false := by rw [h]; rfl
  have g7 : (s.toList == [38]) = false := by rw [h]; rfl
  have g8 : (s.toList == [124]) = false := by rw [h]; rfl
  have g9 : (s.toList == [61, 62]) = true := by rw [h]; rfl
  have g10 : (s.toList == [85]) = false := by rw [h]; rfl
  have g11 : (s.toList == [87]) = false := by rw [h]; rfl
  have g12 : (s.toList == [82]) = false := by rw [h]; rfl
  clear h
  go_enter Tryz.func70, Tryz.ntmps70
  go_wp2
  go_ret
  exact ⟨rfl, rfl⟩
theorem kids_of10 (s : ByteArray) (w : World) (h : s.toList = [85]) : Calls Tryz.prog 70 #[.string s] w (KoP 2 w) := by
  have g0 : (s.toList == [116, 114, 117, 101]) = false := by rw [h]; rfl
  have g1 : (s.toList == [102, 97, 108, 115, 101]) = false := by rw [h]; rfl
  have g2 : (s.toList == [108, 97, 98, 101, 108]) = false := by rw [h]; rfl
  have g3 : (s.toList == [33]) = false := by rw [h]; rfl
  have g4 : (s.toList == [88]) = false := by rw [h]; rfl
  have g5 : (s.toList == [70]) = false := by rw [h]; rfl
  have g6 : (s.toList == [71]) = false := by rw [h]; rfl
  have g7 : (s.toList == [38]) = false := by rw [h]; rfl
  have g8 : (s.toList == [124]) = false := by rw [h]; rfl
  have g9 : (s.toList == [61, 62]) = false := by rw [h]; rfl
  have g10 : (s.toList == [85]) = true := by rw [h]; rfl
  have g11 : (s.toList == [87]) = false := by rw [h]; rfl
  have g12 : (s.toList == [82]) = false := by rw [h]; rfl
  clear h
  go_enter Tryz.func70, Tryz.ntmps70
  go_wp2
  go_ret
  exact ⟨rfl, rfl⟩
theorem kids_of11 (s : ByteArray) (w : World) (h : s.toList = [87]) : Calls Tryz.prog 70 #[.string s] w (KoP 2 w) := by
  have g0 : (s.toList == [116, 114, 117, 101]) = false := by rw [h]; rfl
  have g1 : (s.toList == [102, 97, 108, 115, 101]) = false := by rw [h]; rfl
  have g2 : (s.toList == [108, 97, 98, 101, 108]) = false := by rw [h]; rfl
  have g3 : (s.toList == [33]) = false := by rw [h]; rfl
  have g4 : (s.toList == [88]) = false := by rw [h]; rfl
  have g5 : (s.toList == [70]) = false := by rw [h]; rfl
  have g6 : (s.toList == [71]) = false := by rw [h]; rfl
  have g7 : (s.toList == [38]) = false := by rw [h]; rfl
  have g8 : (s.toList == [124]) = false := by rw [h]; rfl
  have g9 : (s.toList == [61, 62]) = false := by rw [h]; rfl
  have g10 : (s.toList == [85]) = false := by rw [h]; rfl
  have g11 : (s.toList == [87]) = true := by rw [h]; rfl
  have g12 : (s.toList == [82]) = false := by rw [h]; rfl
  clear h
  go_enter Tryz.func70, Tryz.ntmps70
  go_wp2
  go_ret
  exact ⟨rfl, rfl⟩
theorem kids_of12 (s : ByteArray) (w : World) (h : s.toList = [82]) : Calls Tryz.prog 70 #[.string s] w (KoP 2 w) := by
  have g0 : (s.toList == [116, 114, 117, 101]) = false := by rw [h]; rfl
  have g1 : (s.toList == [102, 97, 108, 115, 101]) = false := by rw [h]; rfl
  have g2 : (s.toList == [108, 97, 98, 101, 108]) = false := by rw [h]; rfl
  have g3 : (s.toList == [33]) = false := by rw [h]; rfl
  have g4 : (s.toList == [88]) = false := by rw [h]; rfl
  have g5 : (s.toList == [70]) = false := by rw [h]; rfl
  have g6 : (s.toList == [71]) = false := by rw [h]; rfl
  have g7 : (s.toList == [38]) = false := by rw [h]; rfl
  have g8 : (s.toList == [124]) = false := by rw [h]; rfl
  have g9 : (s.toList == [61, 62]) = false := by rw [h]; rfl
  have g10 : (s.toList == [85]) = false := by rw [h]; rfl
  have g11 : (s.toList == [87]) = false := by rw [h]; rfl
  have g12 : (s.toList == [82]) = true := by rw [h]; rfl
  clear h
  go_enter Tryz.func70, Tryz.ntmps70
  go_wp2
  go_ret
  exact ⟨rfl, rfl⟩
theorem kids_any {x : Fo} (h : OkF x) (s : ByteArray) (hs : s.toList = x.op) (w : World) : Calls Tryz.prog 70 #[.string s] w (KoP x.kids.length w) := by
  cases x with
  | leaf op nm p =>
    rcases h with ⟨rfl, _⟩ | ⟨rfl | rfl, _⟩
    · exact kids_of2 s w hs
    · exact kids_of0 s w hs
    · exact kids_of1 s w hs
  | un op a p =>
    rcases pk_un h.1 with rfl | rfl | rfl | rfl
    · exact kids_of3 s w hs
    · exact kids_of4 s w hs
    · exact kids_of5 s w hs
    · exact kids_of6 s w hs
  | bin op a b p =>
    rcases pk_bin h.1 with rfl | rfl | rfl | rfl | rfl | rfl
    · exact kids_of9 s w hs
    · exact kids_of8 s w hs
    · exact kids_of7 s w hs
    · exact kids_of10 s w hs
    · exact kids_of11 s w hs
    · exact kids_of12 s w hs
/-- isFormula says yes. -/
def IsF (x : Fo) : Prop := ∀ (w : World) (S : Nat → Prop) (c : List Value), FS w 27 S x c → Calls Tryz.prog 43 #[.agg c.toArray] w (BoolP true w)
def IfRel (n : Nat) (w : World) (i : Value) (wr : World) : Prop := ∃ k : Nat, i = .int .i64 (k : Int) ∧ k ≤ n ∧ Below w.heap.size w wr
theorem isclo_any {x : Fo} (h : IsF x) {v : FV} {S : Nat → Prop} (w : World) (hx : FS w 27 S x v.c) : Calls Tryz.prog 72 #[.agg #[.string v.o, .string v.nm, .slice v.A v.ll v.cap, .int .i64 v.p]] w (BoolP false w) := by
  have H := Lib.hid (h (w.alloc (.cells #[.string v.o, .string v.nm, .slice v.A v.ll v.cap, .int .i64 v.p] 27)) S _ (hx.alloc _))
  clear h hx
  go_enter Tryz.func72, Tryz.ntmps72
  go_wp2_with fail
  refine (H.out).mono ?_
  rintro e w1 ⟨rfl, hb⟩
  have HB := Lib.hid (below_t (below_alloc _ _) hb)
  clear hb
  go_wp2
  go_ret
  exact ⟨rfl, HB.out⟩
set_option maxHeartbeats 2000000 in
theorem idxf_any {ks : List Fo} (ih : ∀ x ∈ ks, IsF x) {A : Option Addr} {c1 : Nat} {S : Nat → Prop} (w : World) (hA : FK w 27 S A ks) (hl : ks.length ≤ 3) : Calls Tryz.prog 111 #[.slice A ks.length c1, .func (.func 72) #[] #[]] w fun e w' => e = .returned (.int .i64 (-1)) ∧ Below w.heap.size w w' := by
  have HA := Lib.hid hA
  have HI := Lib.hid ih
  obtain ⟨n, hn⟩ : ∃ n, n = ks.length := ⟨_, rfl⟩
  rw [← hn] at hl ⊢
  have HN := Lib.hid hn
  clear hA ih hn
  go_enter Tryz.func111, Tryz.ntmps111
  go_wp2
  go_loopw [8] (fun i wr => IfRel n w i wr) (fun i _ => n - (intOf i).toNat)
  case atStart => exact ⟨0, rfl, Nat.zero_le _, Below.refl _ _⟩
  case round =>
    obtain ⟨k, rfl, hk, hb⟩ := hrel
    by_cases hlt : k < n
    · have g2 : decide (k < n) = true := by simp; omega
      have k1 : k < ks.length := by rw [← HN.out]; exact hlt
      obtain ⟨g, v, rfl, hg, hH, a0, a1, a2, a3⟩ := HA.out.below hb k k1
      have H1 := Lib.hid (isclo_any (HI.out _ (List.getElem_mem k1)) wr hH)
      have HBb := Lib.hid hb
      obtain ⟨o, nm, P, l, cp, p⟩ := v
      have HAA := Lib.hid HA
      clear HA hH hb hk
      go_wp2_with fail
      refine (H1.out).mono ?_
      rintro e w3 ⟨rfl, hb3⟩
      have HB3 := Lib.hid (below_t HBb.out hb3)
      clear hb3
      go_wp2
      go_roundw
      case rel => exact ⟨k + 1, by go_num, by omega, HB3.out⟩
      case measure => simp [intOf]; omega
    · have g2 : decide (k < n) = false := by simp; omega
      have HBb := Lib.hid hb
      clear hb hk
      go_wp2
      go_ret
      exact ⟨rfl, HBb.out⟩
theorem conf_any {ks : List Fo} (ih : ∀ x ∈ ks, IsF x) {A : Option Addr} {c1 : Nat} {S : Nat → Prop} (w : World) (hA : FK w 27 S A ks) (hl : ks.length ≤ 3) : Calls Tryz.prog 71 #[.slice A ks.length c1, .func (.func 72) #[] #[]] w (BoolP false w) := by
  have H := Lib.hid (idxf_any (c1 := c1) ih w hA hl)
  generalize ks.length = n at *
  clear ih hA
  go_enter Tryz.func71, Tryz.ntmps71
  go_wp2_with fail
  refine (H.out).mono ?_
  rintro e w1 ⟨rfl, hb⟩
  have HB := Lib.hid hb
  clear hb
  go_wp2
  go_ret
  exact ⟨rfl, HB.out⟩
set_option maxHeartbeats 4000000 in
theorem isf_of {x : Fo} (hx : OkF x) (ih : ∀ y ∈ x.kids, IsF y) : IsF x := by
  intro w S c hc
  obtain ⟨A, cap, rfl, hA⟩ := hc.view
  have HK := Lib.hid (fun (W : World) => kids_any hx ⟨x.op.toArray⟩ (by rw [ByteArray.toList_eq]) W)
  have hl := kids3F x
  obtain ⟨W0, hW0⟩ : ∃ W0, W0 = w.alloc (.cells #[.string ⟨x.op.toArray⟩, .string ⟨x.nm.toArray⟩, .slice A x.kids.length cap, .int .i64 (x.pos : Int)] 27) := ⟨_, rfl⟩
  have hbw : Below w.heap.size w W0 := by rw [hW0]; exact below_alloc _ _
  have hbx : Bx W0 w.heap.size 27 [.string ⟨x.op.toArray⟩, .string ⟨x.nm.toArray⟩, .slice A x.kids.length cap, .int .i64 (x.pos : Int)] := by rw [hW0]; exact Bx.new _ _ _
  have HC := Lib.hid (fun (W : World) (hW : Below W0.heap.size W0 W) => conf_any (c1 := cap) ih W (hA.below (below_t hbw hW)) hl)
  have HSS := Lib.hid (show ∀ W, Below W0.heap.size W0 W → (W.cell? ⟨w.heap.size, 0, none⟩ = some (.string ⟨x.op.toArray⟩) ∧ W.cell? ⟨w.heap.size, 2, none⟩ = some (.slice A x.kids.length cap)) from fun W hW => ⟨((hbx.below hW).cell 0).trans rfl, ((hbx.below hW).cell 2).trans rfl⟩)
  have HBW := Lib.hid hbw
  obtain ⟨p, hp⟩ : ∃ p : Int, p = (x.pos : Int) := ⟨_, rfl⟩
  show Calls Tryz.prog 43 #[.agg #[.string ⟨x.op.toArray⟩, .string ⟨x.nm.toArray⟩, .slice A x.kids.length cap, .int .i64 (x.pos : Int)]] w _
  rw [← hp] at hW0 ⊢
  clear hx ih hc hA hbw hbx hp
  generalize (⟨x.op.toArray⟩ : ByteArray) = o at *
  generalize (⟨x.nm.toArray⟩ : ByteArray) = nm at *
  generalize x.kids.length = n at *
  clear x
  have lk : Below W0.heap.size W0 W0.drew := (Below.refl _ _).drew
  subst hW0
  go_enter Tryz.func43, Tryz.ntmps43
  go_wp2_with fail
  go_region_held3 (fun w' => w'.cell? ⟨w.heap.size, 0, none⟩ = some (.string o) ∧ w'.cell? ⟨w.heap.size, 2, none⟩ = some (.slice A n cap)) (exact HSS.out _ lk) (first
    | (go_at_call 70
       refine (HK.out _).mono ?_
       rintro e w1 ⟨rfl, rfl⟩)
    | (go_at_call 71
       refine (HC.out _ lk).mono ?_
       rintro e w1 ⟨rfl, hb1⟩
       replace lk : Below (w.alloc (.cells #[.string o, .string nm, .slice A n cap, .int .i64 p] 27)).heap.size (w.alloc (.cells #[.string o, .string nm, .slice A n cap, .int .i64 p] 27)) w1 := lk.trans (hb1.mono lk.size)))
  all_goals
    have HL := Lib.hid (below_t HBW.out lk)
    clear lk
    go_wp2
    go_ret
    exact ⟨rfl, HL.out⟩
theorem isf_any : ∀ x : Fo, OkF x → IsF x
  | .leaf _ _ _, h => isf_of h (by simp [Fo.kids])
  | .un _ a _, h => isf_of h (by simp only [Fo.kids, List.mem_singleton]; rintro x rfl; exact isf_any x h.2)
  | .bin _ a b _, h => isf_of h (by
      have h1 := isf_any a h.2.1
      have h2 := isf_any b h.2.2
      simp only [Fo.kids, List.mem_cons, List.not_mem_nil, or_false]
      rintro x (rfl | rfl) <;> assumption)
end
section
open Go.RowKit

/-- A letter over so many names. -/
def letR (m : Nat) (c : Int) : Prop := 0 ≤ c ∧ c < ((2 ^ m : Nat) : Int)
instance (m : Nat) (c : Int) : Decidable (letR m c) := inferInstanceAs (Decidable (_ ∧ _))
theorem sh_pow7 (p : Nat) (hp : p < 7) : wrap64 (2 ^ p) = ((2 ^ p : Nat) : Int) := by
  have h : ∀ p : Fin 7, wrap64 (2 ^ p.val) = ((2 ^ p.val : Nat) : Int) := by decide +kernel
  exact h ⟨p, hp⟩
set_option maxRecDepth 100000 in
theorem letclo_any {c : Int} {m q : Nat} (hm : m < 7) (w : World) (hq : w.cell? ⟨q, 0, none⟩ = some (.int .i64 (m : Int))) : Calls Tryz.prog 133 #[.int .i64 c, .pointer (some ⟨q, 0, none⟩)] w fun e w' => e = .returned (.bool (!decide (letR m c))) ∧ w' = w := by
  have HP := Lib.hid (sh_pow7 m hm)
  by_cases h0 : c < 0
  · have d0 : decide (c < 0) = true := by simpa using h0
    have HR := Lib.hid (show true = !decide (letR m c) by rw [decide_eq_false (fun h => absurd h.1 (by omega))]; rfl)
    clear h0
    go_enter Tryz.func133, Tryz.ntmps133
    go_wp2
    go_ret
    exact ⟨ret_bool HR.out, rfl⟩
  · have d0 : decide (c < 0) = false := by simpa using h0
    have HR := Lib.hid (show decide (wrap64 (2 ^ m) ≤ c) = !decide (letR m c) by
      rw [HP.out]
      by_cases h1 : ((2 ^ m : Nat) : Int) ≤ c
      · rw [decide_eq_true h1, decide_eq_false (fun h => absurd h.2 (Int.not_lt.2 h1))]; rfl
      · rw [decide_eq_false h1, decide_eq_true ⟨by omega, Int.not_le.1 h1⟩]; rfl)
    clear h0
    go_enter Tryz.func133, Tryz.ntmps133
    go_wp2
    go_ret
    exact ⟨ret_bool HR.out, rfl⟩
def allR (m : Nat) (l : List Int) : Prop := ∀ c ∈ l, letR m c
instance (m : Nat) (l : List Int) : Decidable (allR m l) := inferInstanceAs (Decidable (∀ _ ∈ _, _))
def IxRel (l : List Int) (m : Nat) (i : Value) (w0 wr : World) : Prop := ∃ k : Nat, i = .int .i64 (k : Int) ∧ k ≤ l.length ∧ (∀ c ∈ l.take k, letR m c) ∧ wr = w0
/-- A number at least 0 if there is one that is no letter, else -1. -/
def IxP (b : Bool) (w : World) (e : Ending) (w' : World) : Prop := (∃ i : Int, e = .returned (.int .i64 i) ∧ decide (0 ≤ i) = b) ∧ w' = w
theorem take_snocI {l : List Int} {k : Nat} (h : k < l.length) : l.take (k + 1) = l.take k ++ [l[k]] := List.take_succ_eq_append_getElem h
set_option maxHeartbeats 2000000 in
theorem idxi_any {A : Option Addr} {l : List Int} {cap m q : Nat} (hm : m < 7) (w : World) (h : ISl w A l) (hq : w.cell? ⟨q, 0, none⟩ = some (.int .i64 (m : Int))) (hlen : l.length ≤ 1000000) : Calls Tryz.prog 153 #[.slice A l.length cap, .func (.func 133) #[] #[.pointer (some ⟨q, 0, none⟩)]] w (IxP (!decide (allR m l)) w) := by
  have HL := Lib.hid h
  have HC := Lib.hid (fun c => letclo_any (c := c) hm w hq)
  obtain ⟨n, hn⟩ : ∃ n, n = l.length := ⟨_, rfl⟩
  have HN := Lib.hid hn
  rw [← hn] at hlen ⊢
  clear h hn hq hm
  go_enter Tryz.func153, Tryz.ntmps153
  go_wp2
  go_loopw [8] (fun i wr => IxRel l m i w wr) (fun i _ => n - (intOf i).toNat)
  case atStart => exact ⟨0, rfl, Nat.zero_le _, fun c hc => absurd hc (by simp), rfl⟩
  case round =>
    obtain ⟨k, rfl, hk, hall, rfl⟩ := hrel
    rw [← HN.out] at hk
    by_cases hlt : k < n
    · have g2 : decide (k < n) = true := by simp; omega
      have kk : k < l.length := by rw [← HN.out]; exact hlt
      obtain ⟨g, o, rfl, c1⟩ := HL.out k kk
      have HLL := Lib.hid HL
      clear HL
      have HNO := Lib.hid (show ¬ letR m l[k] → ¬ allR m l from fun h1 h2 => h1 (h2 _ (List.getElem_mem kk)))
      have HYES := Lib.hid (show letR m l[k] → ∀ c ∈ l.take (k + 1), letR m c from fun h1 c hc => by
        rw [take_snocI kk, List.mem_append] at hc
        rcases hc with hc | hc
        · exact hall c hc
        · simp only [List.mem_singleton] at hc; subst hc; exact h1)
      generalize l[k] = c at *
      clear hall hk
      go_wp2_with fail
      refine (HC.out c).mono ?_
      rintro e w1 ⟨rfl, rfl⟩
      by_cases hr : letR m c
      · have HM := Lib.hid (HYES.out hr)
        rw [decide_eq_true hr]
        clear hr
        go_wp2_with fail
        go_roundw
        case rel => exact ⟨k + 1, by go_num, by rw [← HN.out]; omega, HM.out, rfl⟩
        case measure => simp [intOf]; omega
      · have HM := Lib.hid (HNO.out hr)
        rw [decide_eq_false hr]
        clear hr
        go_wp2_with fail
        go_ret
        exact ⟨⟨_, rfl, by rw [decide_eq_false HM.out]; simp⟩, rfl⟩
    · have g2 : decide (k < n) = false := by simp; omega
      have HA := Lib.hid (show allR m l from fun c hc => hall c (by rw [show k = l.length by rw [← HN.out]; omega, List.take_of_length_le (Nat.le_refl _)]; exact hc))
      clear hall hk
      go_wp2
      go_ret
      exact ⟨⟨_, rfl, by rw [decide_eq_true HA.out]; rfl⟩, rfl⟩
theorem confi_any {A : Option Addr} {l : List Int} {cap m q : Nat} (hm : m < 7) (w : World) (h : ISl w A l) (hq : w.cell? ⟨q, 0, none⟩ = some (.int .i64 (m : Int))) (hlen : l.length ≤ 1000000) : Calls Tryz.prog 132 #[.slice A l.length cap, .func (.func 133) #[] #[.pointer (some ⟨q, 0, none⟩)]] w fun e w' => e = .returned (.bool (!decide (allR m l))) ∧ w' = w := by
  have H := Lib.hid (idxi_any (cap := cap) hm w h hq hlen)
  generalize l.length = n at *
  clear h hq
  go_enter Tryz.func132, Tryz.ntmps132
  go_wp2_with fail
  refine (H.out).mono ?_
  rintro e w1 ⟨⟨i, rfl, hi⟩, rfl⟩
  have HI := Lib.hid hi
  clear hi
  go_wp2
  go_ret
  exact ⟨ret_bool HI.out, rfl⟩
theorem letters_any {A : Option Addr} {l : List Int} {cap m : Nat} (hm : m < 7) (w : World) (h : ISl w A l) (hlen : l.length ≤ 1000000) : Calls Tryz.prog 102 #[.slice A l.length cap, .int .i64 (m : Int)] w (BoolP (decide (allR m l)) w) := by
  have H := Lib.hid (confi_any (q := w.heap.size) (cap := cap) hm (w.alloc (.cells #[.int .i64 (m : Int)] 3)) (h.below (below_alloc _ _)) (by simp) hlen)
  generalize l.length = n at *
  clear h
  go_enter Tryz.func102, Tryz.ntmps102
  go_wp2_with fail
  refine (H.out).mono ?_
  rintro e w1 ⟨rfl, rfl⟩
  go_wp2
  go_ret
  exact ⟨rfl, below_alloc _ _⟩
end
section
open Go.RowKit Go.Sort Go.Lib

theorem below_growW {B : Nat} {w0 w : World} {os : Array Obj} (h : Below B w0 w) (hB : B ≤ w.heap.size) : Below B w0 (grow w os) :=
  ⟨h.os, h.tape, h.output, by simpa using Nat.le_trans h.size (Nat.le_add_right _ _), fun k hk => (heap_grow_old w os (Nat.lt_of_lt_of_le hk hB)).trans (h.block k hk)⟩
section
variable {α : Type} [Inhabited α] [DecidableEq α]
theorem upto_len (d : Array α) : ∀ m, (compactUpTo d m).length ≤ m ∧ ((compactUpTo d m).length = m → ∀ j, j < m → keeps d j = true)
  | 0 => ⟨Nat.le_refl _, fun _ j hj => absurd hj (by omega)⟩
  | m + 1 => by
    obtain ⟨h1, h2⟩ := upto_len d m
    rw [compactUpTo_succ, List.length_append]
    by_cases hk : keeps d m = true
    · rw [if_pos hk]
      refine ⟨by simp; omega, fun h j hj => ?_⟩
      simp only [List.length_singleton] at h
      rcases Nat.lt_or_ge j m with hj' | hj'
      · exact h2 (by omega) j hj'
      · obtain rfl : j = m := by omega
        exact hk
    · rw [if_neg hk]
      exact ⟨by simp; omega, fun h => by simp at h; omega⟩
/-- In a sorted list equal elements are neighbours. -/
theorem compact_nodup {r : α → α → Prop} (l : List α) (hs : l.Pairwise r) (ha : ∀ x y, r x y → r y x → x = y) : (compact l).length = l.length ↔ l.Nodup := by
  have hget : ∀ j (h : j < l.length), l.toArray[j]! = l[j] := fun j h => by rw [getElem!_pos _ _ (by simpa using h)]; rfl
  constructor
  · intro h
    have hk := (upto_len l.toArray l.length).2 h
    rw [List.nodup_iff_pairwise_ne, List.pairwise_iff_getElem]
    have step : ∀ j (h : j + 1 < l.length), l[j] ≠ l[j + 1] := fun j hj e => by
      have := hk (j + 1) hj
      unfold keeps at this
      rw [decide_eq_true_iff] at this
      rcases this with h0 | h0
      · omega
      · rw [hget _ hj, show j + 1 - 1 = j from rfl, hget j (by omega)] at h0
        exact h0 e.symm
    intro i j hi hj hij e
    have hp := List.pairwise_iff_getElem.1 hs
    have h1 : r l[i] l[i + 1] := hp i (i + 1) hi (by omega) (by omega)
    by_cases hj1 : j = i + 1
    · subst hj1; exact step i hj e
    · have h2 : r l[i + 1] l[j] := hp (i + 1) j (by omega) hj (by omega)
      rw [← e] at h2
      exact step i (by omega) (ha _ _ h1 h2)
  · intro hn
    rw [compact_all]
    intro j hj
    unfold keeps
    rw [decide_eq_true_iff]
    by_cases h0 : j = 0
    · exact .inl h0
    · right
      rw [hget j hj, hget (j - 1) (by omega)]
      intro e
      rw [List.nodup_iff_pairwise_ne, List.pairwise_iff_getElem] at hn
      exact hn (j - 1) j (by omega) hj (by omega) e.symm
end
theorem str_sorted (l : List (List UInt8)) : (compact (l.mergeSort fun x y => decide (x ≤ y))).length = l.length ↔ l.Nodup := by
  have hp : (l.mergeSort fun x y => decide (x ≤ y)).Perm l := List.mergeSort_perm _ _
  rw [← hp.length_eq, ← hp.nodup_iff]
  refine compact_nodup (r := fun x y => x ≤ y) _ ?_ (fun x y h1 h2 => List.le_antisymm h1 h2)
  refine (List.pairwise_mergeSort (le := fun x y => decide (x ≤ y)) ?_ ?_ l).imp (fun h => by simpa using h)
  · intro a b c h1 h2
    simp only [decide_eq_true_eq] at h1 h2 ⊢
    exact List.le_trans h1 h2
  · intro a b
    simp only [Bool.or_eq_true, decide_eq_true_eq]
    exact List.le_total a b
theorem str_nodup (l : List ByteArray) : (l.map (·.data.toList)).Nodup ↔ l.Nodup := by
  rw [List.nodup_iff_pairwise_ne, List.nodup_iff_pairwise_ne, List.pairwise_map]
  constructor
  · exact fun h => h.imp fun h e => h (by rw [e])
  · refine fun h => h.imp fun {a b} h e => h ?_
    cases a; cases b
    simp only [ByteArray.mk.injEq]
    exact Array.ext' e
set_option maxHeartbeats 2000000 in
theorem differ_any {A : Option Addr} {l : List ByteArray} {cap : Nat} (w : World) (hl : SSl w A l) (hlen : l.length ≤ 1000000) :
    Calls Tryz.prog 63 #[.slice A l.length cap] w (BoolP (decide l.Nodup) w) := by
  by_cases h0 : l.length = 0
  · have he : l = [] := List.eq_nil_of_length_eq_zero h0
    subst he
    rw [show decide ([] : List ByteArray).Nodup = true from decide_eq_true List.nodup_nil]
    cases A with
    | none =>
      show Calls Tryz.prog 63 #[.slice none 0 cap] w _
      clear hl hlen h0
      go_enter Tryz.func63, Tryz.ntmps63
      go_wp2_with fail
      refine (Tryz.slices_Clone_string_nil 0 cap w).mono ?_
      rintro e w1 ⟨rfl, rfl⟩
      go_wp2_with fail
      refine (Tryz.slices_Sort_string_none none 0 w1).mono ?_
      rintro e w2 ⟨rfl, rfl⟩
      go_wp2_with fail
      refine (Tryz.slices_Compact_string_empty none 0 w2).mono ?_
      rintro e w3 ⟨rfl, rfl⟩
      go_wp2_with fail
      go_ret
      exact ⟨rfl, Below.refl _ _⟩
    | some a =>
      show Calls Tryz.prog 63 #[.slice (some a) 0 cap] w _
      clear hl hlen h0
      go_enter Tryz.func63, Tryz.ntmps63
      go_wp2_with fail
      refine (Tryz.slices_Clone_string_zero a cap w).mono ?_
      rintro e w1 ⟨v, rfl, hown, hne, hb⟩
      obtain ⟨g, c2, rfl, _⟩ := holds_of_ownsRow (enc := encStr) (zs := []) hown hne
      have HB := Lib.hid hb
      clear hown hne hb
      go_wp2_with fail
      refine (Tryz.slices_Sort_string_none _ _ w1).mono ?_
      rintro e w2 ⟨rfl, rfl⟩
      go_wp2_with fail
      refine (Tryz.slices_Compact_string_empty _ _ w2).mono ?_
      rintro e w3 ⟨rfl, rfl⟩
      go_wp2_with fail
      go_ret
      exact ⟨rfl, HB.out⟩
  · obtain ⟨g, o, rfl, _⟩ := hl 0 (by omega)
    obtain ⟨ss, hss⟩ : ∃ ss, ss = l.map (·.data.toList) := ⟨_, rfl⟩
    have HC := Lib.hid (Tryz.slices_Clone_string g o l.length cap l w (Nat.le_refl _) (by omega) (fun j hj => by
      obtain ⟨g', o', e, hc⟩ := hl j hj
      injection e with e
      injection e with e1 e2
      subst e1 e2
      rw [hc, List.getD_eq_getElem?_getD, List.getElem?_eq_getElem hj]; rfl))
    have HND := Lib.hid (show decide l.Nodup = decide ((compact (ss.mergeSort fun x y => decide (x ≤ y))).length = l.length) by
      have h1 := str_sorted ss
      have h2 := str_nodup l
      have h3 : ss.length = l.length := by rw [hss, List.length_map]
      rw [← hss] at h2
      rw [h3] at h1
      exact decide_eq_decide.2 (h2.symm.trans h1.symm))
    have HSS := Lib.hid hss
    obtain ⟨n, hn⟩ : ∃ n, n = l.length := ⟨_, rfl⟩
    have HN := Lib.hid hn
    clear hl hss
    rw [← hn] at h0 hlen HC HND ⊢
    rw [HND.out]
    clear hn
    go_enter Tryz.func63, Tryz.ntmps63
    go_wp2_with fail
    with_reducible refine (HC.out).mono ?_
    rintro e w1 ⟨v, rfl, hown, hne, hb⟩
    rw [HN.out, List.take_of_length_le (Nat.le_refl _), ← map_encStr, ← HSS.out, ← HN.out] at hown
    obtain ⟨g1, c1, rfl, hg1, hlt1, hnc, hcm, hzl, hH⟩ := holds_of_ownsRow hown hne
    have HB := Lib.hid hb
    have HH := Lib.hid hH
    subst hzl
    clear hown hne hb hH
    go_wp2_with fail
    refine (Tryz.slices_Sort_string g1 0 c1 ss w1 HH.out hlt1 (by omega)).mono ?_
    rintro e w2 ⟨rfl, q, os, rfl⟩
    obtain ⟨st, hst⟩ : ∃ st, st = ss.mergeSort fun x y => decide (x ≤ y) := ⟨_, rfl⟩
    rw [← hst]
    have hlst : st.length = ss.length := by rw [hst, List.length_mergeSort]
    have HB2 := Lib.hid (show Below w.heap.size w (grow (putRow encStr (Sort.ahead w1 q) g1 0 st.toArray) os) from below_growW (below_putRow HB.out hg1) (by have := HB.out.size; simpa [putRow, mapBlock, Sort.ahead] using this))
    have HH2 := Lib.hid (show Holds encStr (grow (putRow encStr (Sort.ahead w1 q) g1 0 st.toArray) os) g1 0 st.toArray from holds_grow _ _ _ _ _ _ (by simpa [putRow, mapBlock, Sort.ahead] using hlt1) (holds_putRow _ _ _ _ ss.toArray _ (fun j hj => HH.out j hj) (by simpa using hlst)))
    generalize grow (putRow encStr (Sort.ahead w1 q) g1 0 st.toArray) os = w2 at *
    rw [← hlst]
    rw [← hlst] at hnc hlen h0
    have HST := Lib.hid hst
    have HLS := Lib.hid hlst
    clear hst hlst HH HB HC HN HSS HND
    go_wp2_with fail
    refine (Tryz.slices_Compact_string g1 0 c1 st w2 HH2.out (by omega) hnc).mono ?_
    rintro e w3 ⟨rfl, q2, rfl⟩
    have HB3 := Lib.hid (below_putRow (enc := encStr) (q := q2) (d := (compact st ++ List.replicate (st.length - (compact st).length) []).toArray) HB2.out hg1)
    generalize putRow encStr (Sort.ahead w2 q2) g1 0 _ = w3 at *
    have hcl := compact_length_le st
    obtain ⟨m, hm⟩ : ∃ m, m = (compact st).length := ⟨_, rfl⟩
    rw [← hm] at hcl ⊢
    have HM := Lib.hid (show decide ((compact (ss.mergeSort fun x y => decide (x ≤ y))).length = ss.length) = decide (m = st.length) by rw [← HST.out, ← hm, ← HLS.out])
    clear HH2 HB2 hm
    by_cases he : m = st.length
    · have d : ((m : Int) == (st.length : Int)) = true := by simp; omega
      have HE := Lib.hid he
      clear he
      go_wp2_with fail
      go_ret
      exact ⟨ret_bool (HM.out.trans (decide_eq_true HE.out)).symm, HB3.out⟩
    · have d : ((m : Int) == (st.length : Int)) = false := by simp; omega
      have HE := Lib.hid he
      clear he
      go_wp2_with fail
      go_ret
      exact ⟨ret_bool (HM.out.trans (decide_eq_false HE.out)).symm, HB3.out⟩
/-- A word that is right over names. -/
def wR (nms : List ByteArray) (s l : List Int) : Prop := nms.length ≤ 6 ∧ nms.Nodup ∧ l ≠ [] ∧ s.length + l.length ≤ 64 ∧ allR nms.length s ∧ allR nms.length l
instance (nms : List ByteArray) (s l : List Int) : Decidable (wR nms s l) := inferInstanceAs (Decidable (_ ∧ _))
/-- .. over so many. -/
def wI (m : Nat) (s l : List Int) : Prop := l ≠ [] ∧ s.length + l.length ≤ 64 ∧ allR m s ∧ allR m l
instance (m : Nat) (s l : List Int) : Decidable (wI m s l) := inferInstanceAs (Decidable (_ ∧ _))
/-- A word in memory. -/
structure WM (w : World) (A B : Option Addr) (s l : List Int) : Prop where
  st : ISl w A s
  lp : ISl w B l
theorem WM.below {w w' : World} {A B : Option Addr} {s l : List Int} (h : WM w A B s l) (hb : Below w.heap.size w w') : WM w' A B s l := ⟨h.st.below hb, h.lp.below hb⟩
abbrev lav (A : Option Addr) (n a : Nat) (B : Option Addr) (m b : Nat) : Value := .agg #[.slice A n a, .slice B m b]
set_option maxHeartbeats 4000000 in
theorem isr_any {A B : Option Addr} {s l : List Int} {sc lc m : Nat} (hm : m < 7) (w : World) (h : WM w A B s l) (h1 : s.length ≤ 1000000) (h2 : l.length ≤ 1000000) : Calls Tryz.prog 64 #[lav A s.length sc B l.length lc, .int .i64 (m : Int)] w (BoolP (decide (wI m s l)) w) := by
  have HS := Lib.hid (fun (W : World) (hb : Below w.heap.size w W) => letters_any (cap := sc) hm W (h.st.below hb) h1)
  have HL := Lib.hid (fun (W : World) (hb : Below w.heap.size w W) => letters_any (cap := lc) hm W (h.lp.below hb) h2)
  obtain ⟨n, hn⟩ : ∃ n, n = s.length := ⟨_, rfl⟩
  obtain ⟨k, hk⟩ : ∃ k, k = l.length := ⟨_, rfl⟩
  have HW := Lib.hid (show wI m s l ↔ (k ≠ 0 ∧ n + k ≤ 64 ∧ allR m s ∧ allR m l) by rw [hk, hn]; unfold wI; rw [ne_eq, ne_eq, List.length_eq_zero_iff])
  rw [← hn] at h1 HS ⊢
  rw [← hk] at h2 HL ⊢
  clear h hn hk
  show Calls Tryz.prog 64 #[.agg #[.slice A n sc, .slice B k lc], .int .i64 (m : Int)] w _
  obtain ⟨w0, hw0⟩ : ∃ w0, w0 = w.alloc (.cells #[.slice A n sc, .slice B k lc] 42) := ⟨_, rfl⟩
  have HB0 := Lib.hid (show Below w.heap.size w w0 by rw [hw0]; exact below_alloc _ _)
  have HX0 := Lib.hid (show Bx w0 w.heap.size 42 [.slice A n sc, .slice B k lc] by rw [hw0]; exact Bx.new _ _ _)
  have HW0 := Lib.hid hw0
  clear hw0
  by_cases c1 : k ≠ 0
  · have d1 : decide (0 < k) = true := by simp; omega
    by_cases c2 : n + k ≤ 64
    · have d2 : decide ((n : Int) + (k : Int) ≤ 64) = true := by simp; omega
      have d2' : decide (n + k ≤ 64) = true := by simp; omega
      by_cases c3 : allR m s
      · by_cases c4 : allR m l
        · have H3 := Lib.hid c3
          have H4 := Lib.hid c4
          have HE := Lib.hid (show true = decide (wI m s l) from (decide_eq_true (HW.out.2 ⟨c1, c2, c3, c4⟩)).symm)
          clear c1 c3 c4
          go_enter Tryz.func64, Tryz.ntmps64
          go_wp2_with fail
          rw [← HW0.out]
          with_reducible refine (HS.out _ HB0.out).mono ?_
          rintro e w2 ⟨rfl, hb2⟩
          have HB2 := Lib.hid (below_t HB0.out hb2)
          have HX2 := Lib.hid (HX0.out.below hb2)
          have x2 := HX2.out.cell 0
          have y2 := HX2.out.cell 1
          simp only [List.getElem?_cons_zero, List.getElem?_cons_succ] at x2 y2
          clear hb2
          rw [decide_eq_true H3.out]
          go_wp2_with fail
          with_reducible refine (HL.out _ HB2.out).mono ?_
          rintro e w3 ⟨rfl, hb3⟩
          have HB3 := Lib.hid (below_t HB2.out hb3)
          clear hb3
          rw [decide_eq_true H4.out]
          go_wp2
          go_ret
          exact ⟨ret_bool HE.out, HB3.out⟩
        · have H3 := Lib.hid c3
          have H4 := Lib.hid c4
          have HE := Lib.hid (show false = decide (wI m s l) from (decide_eq_false fun h => c4 (HW.out.1 h).2.2.2).symm)
          clear c1 c3 c4
          go_enter Tryz.func64, Tryz.ntmps64
          go_wp2_with fail
          rw [← HW0.out]
          with_reducible refine (HS.out _ HB0.out).mono ?_
          rintro e w2 ⟨rfl, hb2⟩
          have HB2 := Lib.hid (below_t HB0.out hb2)
          have HX2 := Lib.hid (HX0.out.below hb2)
          have x2 := HX2.out.cell 0
          have y2 := HX2.out.cell 1
          simp only [List.getElem?_cons_zero, List.getElem?_cons_succ] at x2 y2
          clear hb2
          rw [decide_eq_true H3.out]
          go_wp2_with fail
          with_reducible refine (HL.out _ HB2.out).mono ?_
          rintro e w3 ⟨rfl, hb3⟩
          have HB3 := Lib.hid (below_t HB2.out hb3)
          clear hb3
          rw [decide_eq_false H4.out]
          go_wp2
          go_ret
          exact ⟨ret_bool HE.out, HB3.out⟩
      · have H3 := Lib.hid c3
        have HE := Lib.hid (show false = decide (wI m s l) from (decide_eq_false fun h => c3 (HW.out.1 h).2.2.1).symm)
        clear c1 c3
        go_enter Tryz.func64, Tryz.ntmps64
        go_wp2_with fail
        rw [← HW0.out]
        with_reducible refine (HS.out _ HB0.out).mono ?_
        rintro e w2 ⟨rfl, hb2⟩
        have HB2 := Lib.hid (below_t HB0.out hb2)
        have HX2 := Lib.hid (HX0.out.below hb2)
        have x2 := HX2.out.cell 0
        have y2 := HX2.out.cell 1
        simp only [List.getElem?_cons_zero, List.getElem?_cons_succ] at x2 y2
        clear hb2
        rw [decide_eq_false H3.out]
        go_wp2
        go_ret
        exact ⟨ret_bool HE.out, HB2.out⟩
    · have d2 : decide ((n : Int) + (k : Int) ≤ 64) = false := by simp; omega
      have d2' : decide (n + k ≤ 64) = false := by simp; omega
      have HE := Lib.hid (show false = decide (wI m s l) from (decide_eq_false fun h => c2 (HW.out.1 h).2.1).symm)
      clear c1 c2
      go_enter Tryz.func64, Tryz.ntmps64
      go_wp2
      go_ret
      exact ⟨ret_bool HE.out, below_alloc _ _⟩
  · have d1 : decide (0 < k) = false := by simp; omega
    have HE := Lib.hid (show false = decide (wI m s l) from (decide_eq_false fun h => c1 (HW.out.1 h).1).symm)
    clear c1
    go_enter Tryz.func64, Tryz.ntmps64
    go_wp2
    go_ret
    exact ⟨ret_bool HE.out, below_alloc _ _⟩
/-- What Check tells. -/
def ErrP (n : Int) (w : World) (e : Ending) (w' : World) : Prop := e = .returned (if n = 0 then .nilIface else .iface 78 (.int .i64 n)) ∧ Below w.heap.size w w'
set_option maxHeartbeats 4000000 in
set_option maxRecDepth 100000 in
theorem check_any {N A B : Option Addr} {nms : List ByteArray} {s l : List Int} {nc sc lc : Nat} (w : World) (hN : SSl w N nms) (h : WM w A B s l) (h0 : nms.length ≤ 1000000) (h1 : s.length ≤ 1000000) (h2 : l.length ≤ 1000000) :
    Calls Tryz.prog 40 #[.slice N nms.length nc, lav A s.length sc B l.length lc] w (ErrP (if wR nms s l then 0 else 1) w) := by
  have HD := Lib.hid (fun (W : World) (hb : Below w.heap.size w W) => differ_any (cap := nc) W (hN.below hb) h0)
  obtain ⟨m, hm⟩ : ∃ m, m = nms.length := ⟨_, rfl⟩
  have HR := Lib.hid (fun (h7 : m < 7) (W : World) (hb : Below w.heap.size w W) => isr_any (sc := sc) (lc := lc) h7 W (h.below hb) h1 h2)
  have HW := Lib.hid (show wR nms s l ↔ (m ≤ 6 ∧ nms.Nodup ∧ wI m s l) by rw [hm]; exact Iff.rfl)
  rw [← hm] at HD h0 ⊢
  clear hN h hm
  generalize s.length = n at *
  generalize l.length = k at *
  show Calls Tryz.prog 40 #[.slice N m nc, .agg #[.slice A n sc, .slice B k lc]] w _
  obtain ⟨w0, hw0⟩ : ∃ w0, w0 = w.alloc (.cells #[.slice A n sc, .slice B k lc] 42) := ⟨_, rfl⟩
  have HB0 := Lib.hid (show Below w.heap.size w w0 by rw [hw0]; exact below_alloc _ _)
  have HX0 := Lib.hid (show Bx w0 w.heap.size 42 [.slice A n sc, .slice B k lc] by rw [hw0]; exact Bx.new _ _ _)
  have HW0 := Lib.hid hw0
  clear hw0
  by_cases c1 : m ≤ 6
  · have d1 : decide (6 < m) = false := by simp; omega
    have d1' : ¬ (6 : Int) < (m : Int) := by omega
    replace HR := Lib.hid (HR.out (by omega))
    by_cases c2 : nms.Nodup
    · by_cases c3 : wI m s l
      · have H3 := Lib.hid c2
        have H4 := Lib.hid c3
        rw [if_pos (HW.out.2 ⟨c1, c2, c3⟩)]
        clear c1 c2 c3
        go_enter Tryz.func40, Tryz.ntmps40
        go_wp2_with fail
        rw [← HW0.out]
        with_reducible refine (HD.out _ HB0.out).mono ?_
        rintro e w2 ⟨rfl, hb2⟩
        have HB2 := Lib.hid (below_t HB0.out hb2)
        have HX2 := Lib.hid (HX0.out.below hb2)
        have x2 := HX2.out.cell 0
        have y2 := HX2.out.cell 1
        simp only [List.getElem?_cons_zero, List.getElem?_cons_succ] at x2 y2
        clear hb2
        rw [decide_eq_true H3.out]
        go_wp2_with fail
        with_reducible refine (HR.out _ HB2.out).mono ?_
        rintro e w3 ⟨rfl, hb3⟩
        have HB3 := Lib.hid (below_t HB2.out hb3)
        clear hb3
        rw [decide_eq_true H4.out]
        go_wp2
        go_ret
        exact ⟨rfl, HB3.out⟩
      · have H3 := Lib.hid c2
        have H4 := Lib.hid c3
        rw [if_neg (fun h => c3 (HW.out.1 h).2.2)]
        clear c1 c2 c3
        go_enter Tryz.func40, Tryz.ntmps40
        go_wp2_with fail
        rw [← HW0.out]
        with_reducible refine (HD.out _ HB0.out).mono ?_
        rintro e w2 ⟨rfl, hb2⟩
        have HB2 := Lib.hid (below_t HB0.out hb2)
        have HX2 := Lib.hid (HX0.out.below hb2)
        have x2 := HX2.out.cell 0
        have y2 := HX2.out.cell 1
        simp only [List.getElem?_cons_zero, List.getElem?_cons_succ] at x2 y2
        clear hb2
        rw [decide_eq_true H3.out]
        go_wp2_with fail
        with_reducible refine (HR.out _ HB2.out).mono ?_
        rintro e w3 ⟨rfl, hb3⟩
        have HB3 := Lib.hid (below_t HB2.out hb3)
        clear hb3
        rw [decide_eq_false H4.out]
        go_wp2
        go_ret
        exact ⟨rfl, HB3.out⟩
    · have H3 := Lib.hid c2
      rw [if_neg (fun h => c2 (HW.out.1 h).2.1)]
      clear c1 c2
      go_enter Tryz.func40, Tryz.ntmps40
      go_wp2_with fail
      rw [← HW0.out]
      with_reducible refine (HD.out _ HB0.out).mono ?_
      rintro e w2 ⟨rfl, hb2⟩
      have HB2 := Lib.hid (below_t HB0.out hb2)
      have HX2 := Lib.hid (HX0.out.below hb2)
      have x2 := HX2.out.cell 0
      have y2 := HX2.out.cell 1
      simp only [List.getElem?_cons_zero, List.getElem?_cons_succ] at x2 y2
      clear hb2
      rw [decide_eq_false H3.out]
      go_wp2
      go_ret
      exact ⟨rfl, HB2.out⟩
  · have d1 : decide (6 < m) = true := by simp; omega
    have d1' : (6 : Int) < (m : Int) := by omega
    rw [if_neg (fun h => c1 (HW.out.1 h).1)]
    clear c1
    go_enter Tryz.func40, Tryz.ntmps40
    go_wp2
    go_ret
    exact ⟨rfl, below_alloc _ _⟩
end
end Go.Proofs.YtmgjpjjglghbaaaGreatDoor
