/-
  How loose a kid may be, the signs ahead of the kids, an atom's text: walked (for Print).
-/
import Derived.Test.YtjhicgllofjpoaaGreatDoorJ8
import Derived.Test.YtjhicgllofjpoaaGreatDoorJ6
namespace Go.Proofs.YtjhicgllofjpoaaGreatDoor
open Go.RowKit

theorem pk_le (x : List UInt8) : pk x ≤ 5 := by
  unfold pk
  repeat' split
  all_goals omega
def LoF (k : Nat) (w : World) (e : Ending) (w' : World) : Prop := e = .returned (.int .i64 (k : Int)) ∧ w = w'
theorem ploosest_any (s : ByteArray) (p : Nat) (hp : p ≤ 1) (w : World) : Calls Tryz.prog 59 #[.string s, .int .i64 (p : Int)] w (LoF (loP (pk s.data.toList) p) w) := by
  have hr := pk_le s.data.toList
  have H := Lib.hid (fun W : World => prank_any s W)
  unfold PkP at H
  generalize pk s.data.toList = r at *
  by_cases p0 : p = 0
  · subst p0
    clear hp
    by_cases h0 : r = 0
    · subst h0
      clear hr
      go_enter Tryz.func59, Tryz.ntmps59
      go_wp2_with fail
      with_reducible refine (H.out _).mono ?_
      rintro e w' ⟨rfl, rfl⟩
      go_wp2
      go_ret
      exact ⟨rfl, rfl⟩
    by_cases h1 : r = 1
    · subst h1
      clear hr h0
      go_enter Tryz.func59, Tryz.ntmps59
      go_wp2_with fail
      with_reducible refine (H.out _).mono ?_
      rintro e w' ⟨rfl, rfl⟩
      go_wp2
      go_ret
      exact ⟨rfl, rfl⟩
    by_cases h2 : r = 2
    · subst h2
      clear hr h0 h1
      go_enter Tryz.func59, Tryz.ntmps59
      go_wp2_with fail
      with_reducible refine (H.out _).mono ?_
      rintro e w' ⟨rfl, rfl⟩
      go_wp2
      go_ret
      exact ⟨rfl, rfl⟩
    by_cases h3 : r = 3
    · subst h3
      clear hr h0 h1 h2
      go_enter Tryz.func59, Tryz.ntmps59
      go_wp2_with fail
      with_reducible refine (H.out _).mono ?_
      rintro e w' ⟨rfl, rfl⟩
      go_wp2
      go_ret
      exact ⟨rfl, rfl⟩
    by_cases h4 : r = 4
    · subst h4
      clear hr h0 h1 h2 h3
      go_enter Tryz.func59, Tryz.ntmps59
      go_wp2_with fail
      with_reducible refine (H.out _).mono ?_
      rintro e w' ⟨rfl, rfl⟩
      go_wp2
      go_ret
      exact ⟨rfl, rfl⟩
    obtain rfl : r = 5 := by omega
    clear hr h0 h1 h2 h3 h4
    go_enter Tryz.func59, Tryz.ntmps59
    go_wp2_with fail
    with_reducible refine (H.out _).mono ?_
    rintro e w' ⟨rfl, rfl⟩
    go_wp2
    go_ret
    exact ⟨rfl, rfl⟩
  obtain rfl : p = 1 := by omega
  clear hp p0
  by_cases h0 : r = 0
  · subst h0
    clear hr
    go_enter Tryz.func59, Tryz.ntmps59
    go_wp2_with fail
    with_reducible refine (H.out _).mono ?_
    rintro e w' ⟨rfl, rfl⟩
    go_wp2
    go_ret
    exact ⟨rfl, rfl⟩
  by_cases h1 : r = 1
  · subst h1
    clear hr h0
    go_enter Tryz.func59, Tryz.ntmps59
    go_wp2_with fail
    with_reducible refine (H.out _).mono ?_
    rintro e w' ⟨rfl, rfl⟩
    go_wp2
    go_ret
    exact ⟨rfl, rfl⟩
  by_cases h2 : r = 2
  · subst h2
    clear hr h0 h1
    go_enter Tryz.func59, Tryz.ntmps59
    go_wp2_with fail
    with_reducible refine (H.out _).mono ?_
    rintro e w' ⟨rfl, rfl⟩
    go_wp2
    go_ret
    exact ⟨rfl, rfl⟩
  by_cases h3 : r = 3
  · subst h3
    clear hr h0 h1 h2
    go_enter Tryz.func59, Tryz.ntmps59
    go_wp2_with fail
    with_reducible refine (H.out _).mono ?_
    rintro e w' ⟨rfl, rfl⟩
    go_wp2
    go_ret
    exact ⟨rfl, rfl⟩
  by_cases h4 : r = 4
  · subst h4
    clear hr h0 h1 h2 h3
    go_enter Tryz.func59, Tryz.ntmps59
    go_wp2_with fail
    with_reducible refine (H.out _).mono ?_
    rintro e w' ⟨rfl, rfl⟩
    go_wp2
    go_ret
    exact ⟨rfl, rfl⟩
  obtain rfl : r = 5 := by omega
  clear hr h0 h1 h2 h3 h4
  go_enter Tryz.func59, Tryz.ntmps59
  go_wp2_with fail
  with_reducible refine (H.out _).mono ?_
  rintro e w' ⟨rfl, rfl⟩
  go_wp2
  go_ret
  exact ⟨rfl, rfl⟩
def sgF (op : List UInt8) : List (List UInt8) := if op = [33] then [[33]] else if op = [88] ∨ op = [70] ∨ op = [71] then [op ++ [32]] else [[], 32 :: op ++ [32]]
def SgF (l : List (List UInt8)) (w : World) (e : Ending) (w' : World) : Prop := ∃ g, e = .returned (.slice (some ⟨g, 0, none⟩) l.length l.length) ∧ w.heap.size ≤ g ∧ w'.heap[g]? = some (.cells (l.map strV).toArray 9 (0, 0)) ∧ Below w.heap.size w w'
theorem str_app (s : ByteArray) (l : List UInt8) : s ++ (⟨l.toArray⟩ : ByteArray) = ⟨(s.data.toList ++ l).toArray⟩ := by
  apply ByteArray.ext
  simp
theorem app_str (s : ByteArray) (l : List UInt8) : (⟨l.toArray⟩ : ByteArray) ++ s = ⟨(l ++ s.data.toList).toArray⟩ := by
  apply ByteArray.ext
  simp
set_option maxHeartbeats 1000000 in
theorem psigns_any (s : ByteArray) (hs : s.size ≤ 65536) (w : World) : Calls Tryz.prog 57 #[.string s] w (SgF (sgF s.data.toList) w) := by
  rw [← ByteArray.toList_eq]
  by_cases h0 : s.toList = [33]
  · have e : sgF s.toList = [[33]] := by rw [h0]; rfl
    rw [e]
    have g0 : (s.toList == [33]) = true := by rw [h0]; rfl
    have g1 : (s.toList == [88]) = false := by rw [h0]; rfl
    have g2 : (s.toList == [70]) = false := by rw [h0]; rfl
    have g3 : (s.toList == [71]) = false := by rw [h0]; rfl
    clear e h0
    go_enter Tryz.func57, Tryz.ntmps57
    go_wp2
    go_ret
    exact ⟨w.heap.size, rfl, Nat.le_refl _, heap_alloc_new w _, (Below.refl _ _).alloc (Nat.le_refl _) _⟩
  by_cases h1 : s.toList = [88]
  · have e : sgF s.toList = [[88, 32]] := by rw [h1]; rfl
    rw [e]
    have g0 : (s.toList == [33]) = false := by rw [h1]; rfl
    have g1 : (s.toList == [88]) = true := by rw [h1]; rfl
    have g2 : (s.toList == [70]) = false := by rw [h1]; rfl
    have g3 : (s.toList == [71]) = false := by rw [h1]; rfl
    have HE := Lib.hid (show s ++ (⟨#[32]⟩ : ByteArray) = ⟨#[88, 32]⟩ by rw [show (⟨#[32]⟩ : ByteArray) = ⟨[32].toArray⟩ from rfl, str_app, ← ByteArray.toList_eq, h1]; rfl)
    clear e h0 h1
    go_enter Tryz.func57, Tryz.ntmps57
    go_wp2
    go_ret
    exact ⟨w.heap.size, rfl, Nat.le_refl _, (by rw [HE.out]; exact heap_alloc_new w _), (Below.refl _ _).alloc (Nat.le_refl _) _⟩
  by_cases h2 : s.toList = [70]
  · have e : sgF s.toList = [[70, 32]] := by rw [h2]; rfl
    rw [e]
    have g0 : (s.toList == [33]) = false := by rw [h2]; rfl
    have g1 : (s.toList == [88]) = false := by rw [h2]; rfl
    have g2 : (s.toList == [70]) = true := by rw [h2]; rfl
    have g3 : (s.toList == [71]) = false := by rw [h2]; rfl
    have HE := Lib.hid (show s ++ (⟨#[32]⟩ : ByteArray) = ⟨#[70, 32]⟩ by rw [show (⟨#[32]⟩ : ByteArray) = ⟨[32].toArray⟩ from rfl, str_app, ← ByteArray.toList_eq, h2]; rfl)
    clear e h0 h1 h2
    go_enter Tryz.func57, Tryz.ntmps57
    go_wp2
    go_ret
    exact ⟨w.heap.size, rfl, Nat.le_refl _, (by rw [HE.out]; exact heap_alloc_new w _), (Below.refl _ _).alloc (Nat.le_refl _) _⟩
  by_cases h3 : s.toList = [71]
  · have e : sgF s.toList = [[71, 32]] := by rw [h3]; rfl
    rw [e]
    have g0 : (s.toList == [33]) = false := by rw [h3]; rfl
    have g1 : (s.toList == [88]) = false := by rw [h3]; rfl
    have g2 : (s.toList == [70]) = false := by rw [h3]; rfl
    have g3 : (s.toList == [71]) = true := by rw [h3]; rfl
    have HE := Lib.hid (show s ++ (⟨#[32]⟩ : ByteArray) = ⟨#[71, 32]⟩ by rw [show (⟨#[32]⟩ : ByteArray) = ⟨[32].toArray⟩ from rfl, str_app, ← ByteArray.toList_eq, h3]; rfl)
    clear e h0 h1 h2 h3
    go_enter Tryz.func57, Tryz.ntmps57
    go_wp2
    go_ret
    exact ⟨w.heap.size, rfl, Nat.le_refl _, (by rw [HE.out]; exact heap_alloc_new w _), (Below.refl _ _).alloc (Nat.le_refl _) _⟩
  have e : sgF s.toList = [[], 32 :: s.toList ++ [32]] := by simp [sgF, h0, h1, h2, h3]
  rw [e]
  have g0 : (s.toList == [33]) = false := by rw [beq_eq_false_iff_ne]; exact h0
  have g1 : (s.toList == [88]) = false := by rw [beq_eq_false_iff_ne]; exact h1
  have g2 : (s.toList == [70]) = false := by rw [beq_eq_false_iff_ne]; exact h2
  have g3 : (s.toList == [71]) = false := by rw [beq_eq_false_iff_ne]; exact h3
  have HE := Lib.hid (show (⟨#[32]⟩ : ByteArray) ++ s ++ (⟨#[32]⟩ : ByteArray) = ⟨(32 :: s.toList ++ [32]).toArray⟩ by
    rw [show (⟨#[32]⟩ : ByteArray) = ⟨[32].toArray⟩ from rfl, app_str, str_app, ByteArray.toList_eq]; simp)
  clear e h0 h1 h2 h3
  go_enter Tryz.func57, Tryz.ntmps57
  go_wp2
  go_ret
  exact ⟨w.heap.size, rfl, Nat.le_refl _, (by rw [HE.out]; exact heap_alloc_new w _), (Below.refl _ _).alloc (Nat.le_refl _) _⟩
def atF (x : Fo) : List UInt8 := if x.op = opLab then 34 :: (x.nm ++ [34]) else x.op
theorem patomtext_any {x : Fo} {c : List Value} {S : Nat → Prop} (w : World) (h : FS w 25 S x c) (hz : x.nm.length ≤ 65536) : Calls Tryz.prog 56 #[.agg c.toArray] w fun e w' => e = .returned (.string ⟨(atF x).toArray⟩) ∧ Below w.heap.size w w' := by
  obtain ⟨A, cap, rfl, _⟩ := h.view
  have hs : (⟨x.nm.toArray⟩ : ByteArray).size ≤ 65536 := by show x.nm.toArray.size ≤ 65536; simpa using hz
  have HB := Lib.hid (show Below w.heap.size w (w.alloc (.cells #[.string ⟨x.op.toArray⟩, .string ⟨x.nm.toArray⟩, .slice A x.kids.length cap, .int .i64 (x.pos : Int)] 25)) from (Below.refl _ _).alloc (Nat.le_refl _) _)
  change Calls Tryz.prog 56 #[.agg #[.string ⟨x.op.toArray⟩, .string ⟨x.nm.toArray⟩, .slice A x.kids.length cap, .int .i64 (x.pos : Int)]] w _
  have g0 : ((⟨x.op.toArray⟩ : ByteArray).toList == [108, 97, 98, 101, 108]) = decide (x.op = opLab) := by
    rw [ByteArray.toList_eq]
    show (x.op.toArray.toList == opLab) = _
    simp [Bool.beq_eq_decide_eq]
  by_cases ho : x.op = opLab
  · rw [decide_eq_true ho] at g0
    have HE := Lib.hid (show (⟨#[34]⟩ : ByteArray) ++ ⟨x.nm.toArray⟩ ++ (⟨#[34]⟩ : ByteArray) = ⟨(atF x).toArray⟩ by
      rw [show (⟨#[34]⟩ : ByteArray) = ⟨[34].toArray⟩ from rfl, app_str, str_app]; simp [atF, ho])
    clear ho h
    obtain ⟨o, hoo⟩ : ∃ o, o = (⟨x.op.toArray⟩ : ByteArray) := ⟨_, rfl⟩
    obtain ⟨nm, hnm⟩ : ∃ nm, nm = (⟨x.nm.toArray⟩ : ByteArray) := ⟨_, rfl⟩
    rw [← hoo, ← hnm] at HB ⊢
    rw [← hoo] at g0
    rw [← hnm] at HE hs
    clear hoo hnm
    go_enter Tryz.func56, Tryz.ntmps56
    go_wp2
    go_ret
    exact ⟨by show Ending.returned (.string ((⟨#[34]⟩ : ByteArray) ++ nm ++ (⟨#[34]⟩ : ByteArray))) = _; rw [HE.out], HB.out⟩
  · rw [decide_eq_false ho] at g0
    have HE := Lib.hid (show (⟨x.op.toArray⟩ : ByteArray) = ⟨(atF x).toArray⟩ by simp [atF, ho])
    clear ho h
    obtain ⟨o, hoo⟩ : ∃ o, o = (⟨x.op.toArray⟩ : ByteArray) := ⟨_, rfl⟩
    rw [← hoo] at HB HE g0 ⊢
    clear hoo
    go_enter Tryz.func56, Tryz.ntmps56
    go_wp2
    go_ret
    exact ⟨by show Ending.returned (.string o) = _; rw [HE.out], HB.out⟩
end Go.Proofs.YtjhicgllofjpoaaGreatDoor
