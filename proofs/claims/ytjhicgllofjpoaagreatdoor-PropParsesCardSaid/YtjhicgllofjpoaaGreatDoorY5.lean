/-
  The document's size of a formula: walked.
-/
import Derived.Test.YtjhicgllofjpoaaGreatDoorZ5
import Derived.Test.YtjhicgllofjpoaaGreatDoorJ7
namespace Go.Proofs.YtjhicgllofjpoaaGreatDoor
open Go.RowKit Go.Sort

def RSzC (x : Fo) : Prop := ∀ (w : World) (S : Nat → Prop) (c : List Value), FS w 32 S x c → Calls Tryz.prog 16 #[.agg c.toArray] w fun e w' => e = .returned (.int .i64 (x.size : Int)) ∧ Below w.heap.size w w'
theorem size_sumF (x : Fo) : x.size = sizesF x.kids + 1 := by
  cases x <;> simp [Fo.size, sizesF, Fo.kids] <;> omega
theorem sizesF_take {ks : List Fo} {k : Nat} (h : k < ks.length) : sizesF (ks.take (k + 1)) = sizesF (ks.take k) + ks[k].size := by
  rw [List.take_succ_eq_append_getElem h, sizesF_app]; simp [sizesF]
theorem sizesF_le {ks : List Fo} (k : Nat) : sizesF (ks.take k) ≤ sizesF ks := by
  conv => rhs; rw [← List.take_append_drop k ks]
  rw [sizesF_app]; omega
def RSzRel (x : Fo) (S : Nat → Prop) (w : World) (A : Option Addr) (N cap : Nat) (o nm : ByteArray) (p : Int) (s i : Value) (wr : World) : Prop :=
  ∃ k : Nat, i = .int .i64 (k : Int) ∧ k ≤ N ∧ s = .int .i64 ((1 + sizesF (x.kids.take k) : Nat) : Int) ∧ SLF w wr o nm p A N cap x.kids S
set_option maxHeartbeats 2000000 in
set_option maxRecDepth 100000 in
theorem rfsize_of {x : Fo} (hb : x.size ≤ 1000000) (ih : ∀ k ∈ x.kids, RSzC k) : RSzC x := by
  intro w S c hH
  obtain ⟨A, cap, rfl, hk⟩ := hH.view
  have hN3 := fkids3 x
  have HSZ := Lib.hid (size_sumF x)
  have HIH := Lib.hid ih
  have HBD := Lib.hid hb
  change Calls Tryz.prog 16 #[.agg #[.string ⟨x.op.toArray⟩, .string ⟨x.nm.toArray⟩, .slice A x.kids.length cap, .int .i64 (x.pos : Int)]] w _
  obtain ⟨N, hN⟩ : ∃ N, N = x.kids.length := ⟨_, rfl⟩
  have HN := Lib.hid hN
  rw [← hN] at hN3 ⊢
  have HK := Lib.hid hk
  clear ih hH hk hN hb
  generalize (⟨x.op.toArray⟩ : ByteArray) = o at *
  generalize (⟨x.nm.toArray⟩ : ByteArray) = nm at *
  generalize (x.pos : Int) = p at *
  go_enter Tryz.func16, Tryz.ntmps16
  go_wp2
  go_loopw [3, 4] (fun s i wr => RSzRel x S w A N cap o nm p s i wr) (fun _ i _ => N - (intOf i).toNat)
  case atStart => exact ⟨0, rfl, Nat.zero_le _, rfl, ⟨heap_alloc_new w _, HK.out.below ((Below.refl _ _).alloc (Nat.le_refl _) _), (Below.refl _ _).alloc (Nat.le_refl _) _⟩⟩
  case round =>
    obtain ⟨k, rfl, hk, rfl, hsl⟩ := hrel
    have b2 := hsl.bx.cell 2
    simp only [List.getElem?_cons_zero, List.getElem?_cons_succ] at b2
    have hbl := hsl.bx.lt
    by_cases hlt : k < N
    · have c4 : decide ((k : Int) < (N : Int)) = true := by simp; omega
      have c5 : decide (k < N) = true := by simpa using hlt
      have kk : k < x.kids.length := by rw [← HN.out]; exact hlt
      obtain ⟨g, ⟨o', nm', P', l', cp', p'⟩, rfl, hg', hH', a0, a1, a2, a3⟩ := hsl.k k kk
      have H := Lib.hid (HIH.out _ (List.getElem_mem kk) wr _ _ hH')
      have HST := Lib.hid (sizesF_take kk)
      have hsz1 : sizesF (x.kids.take k) + x.kids[k].size ≤ 1000000 := by
        have h1 := sizesF_le (ks := x.kids) (k + 1)
        rw [HST.out] at h1
        have := HBD.out; have := HSZ.out; omega
      have HSL := Lib.hid hsl
      clear hsl hH'
      generalize hq1 : sizesF (x.kids.take k) = q1 at *
      generalize hq2 : x.kids[k].size = q2 at *
      have HQ1 := Lib.hid hq1
      have HQ2 := Lib.hid hq2
      clear hq1 hq2
      go_wp2_with fail
      refine (H.out).mono ?_
      rintro e w1 ⟨rfl, hb1⟩
      have HR := Lib.hid (show RSzRel x S w (some ⟨g, 0, none⟩) N cap o nm p (.int .i64 (((1 + q1 : Nat) : Int) + (q2 : Int))) (.int .i64 ((k : Int) + 1)) w1 from
        ⟨k + 1, by go_num, by omega, by rw [HST.out]; congr 1; omega, HSL.out.below hb1⟩)
      clear hb1
      go_wp2
      go_roundw
      case rel => exact HR.out
      case measure => simp [intOf]; omega
    · have c4 : decide ((k : Int) < (N : Int)) = false := by simp; omega
      have c5 : decide (k < N) = false := by simpa using hlt
      have HW := Lib.hid hsl.w
      have HE := Lib.hid (show 1 + sizesF (x.kids.take k) = x.size by
        rw [List.take_of_length_le (by rw [← HN.out]; omega), HSZ.out]; omega)
      clear hsl
      go_wp2
      go_ret
      exact ⟨ret_i64F (by have := HE.out; omega), HW.out⟩
theorem rfsize_any : ∀ x : Fo, x.size ≤ 1000000 → RSzC x
  | .leaf _ _ _, h => rfsize_of h (by simp [Fo.kids])
  | .un _ a _, h => rfsize_of h (by simp only [Fo.kids, List.mem_singleton]; rintro x rfl; exact rfsize_any x (by simp only [Fo.size] at h; omega))
  | .bin _ a b _, h => rfsize_of h (by
      have h1 := rfsize_any a (by simp only [Fo.size] at h; omega)
      have h2 := rfsize_any b (by simp only [Fo.size] at h; omega)
      simp only [Fo.kids, List.mem_cons, List.not_mem_nil, or_false]
      rintro x (rfl | rfl) <;> assumption)
end Go.Proofs.YtjhicgllofjpoaaGreatDoor
