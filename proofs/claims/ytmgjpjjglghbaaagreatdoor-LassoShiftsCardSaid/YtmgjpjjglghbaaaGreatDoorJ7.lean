/-
  Size of formulas, walked.
-/
import Derived.Test.YtmgjpjjglghbaaaGreatDoorJB
import Derived.WalkSmall
import Derived.Maps.AppendAt
import Derived.Laws.AppendOwnNone
namespace Go.Proofs.YtmgjpjjglghbaaaGreatDoor
open Go.RowKit

theorem infoF : (Tryz.prog.info? 27).map (fun i => (i.zero, i.size, i.bytes)) = some (some (.agg #[.string ⟨#[]⟩, .string ⟨#[]⟩, .slice none 0 0, .int .i64 0]), 4, 64) := by kernel_rfl
theorem row_formsF {w : World} {base size n : Nat} {e : TypeId} {v : Value} {xs : List Value} (h : w.ownsRow base e size v n xs) : (v = .slice none 0 0 ∧ n = 0) ∨ ∃ g cap, v = .slice (some ⟨g, 0, none⟩) n cap := by
  rcases h.2 with h | ⟨g, cap, cur, hv, _⟩
  · exact .inl h
  · exact .inr ⟨g, cap, hv⟩
theorem row_formF {w : World} {base size n : Nat} {e : TypeId} {v : Value} {xs : List Value} (h : w.ownsRow base e size v n xs) (hn : 0 < n) : ∃ g cap, v = .slice (some ⟨g, 0, none⟩) n cap := by
  rcases row_formsF h with ⟨_, h⟩ | h
  · omega
  · exact h
/-- A list of expressions in memory; its head lies last. -/
def StkF (w : World) (S : Nat → Prop) : List Fo → List Value → Prop
  | [], cs => cs = []
  | x :: r, cs => ∃ c0 c, cs = c0 ++ c ∧ FS w 27 S x c ∧ StkF w S r c0
theorem StkF.len {w : World} {S : Nat → Prop} : ∀ {r : List Fo} {cs : List Value}, StkF w S r cs → cs.length = r.length * 4
  | [], cs, h => by rw [show cs = [] from h]; rfl
  | x :: r, cs, ⟨c0, c, h1, h2, h3⟩ => by rw [h1, List.length_append, h3.len, h2.len4, List.length_cons]; omega
theorem Arr.cellsF {w : World} {e : TypeId} {S : Nat → Prop} {g : Nat} {xs : List Value} (h : Arr w e S g xs) : ∀ (j : Nat) (u : Value), xs[j]? = some u → w.cell? ((⟨g, 0, none⟩ : Addr).add j) = some u := by
  intro j u hu
  have e : (⟨g, 0, none⟩ : Addr).add j = ⟨g, j, none⟩ := by
    unfold Addr.add
    by_cases hj : j = 0 <;> simp [hj]
  rw [e]
  exact h.cell hu
theorem fone : ∀ {v : FV}, ∀ u ∈ v.c, u.oneCell' = true := by
  intro v u hu
  simp only [FV.c, List.mem_cons, List.not_mem_nil, or_false] at hu
  rcases hu with rfl | rfl | rfl | rfl <;> rfl
theorem FS.one {w : World} {e : TypeId} {S : Nat → Prop} {x : Fo} {c : List Value} (h : FS w e S x c) : ∀ u ∈ c, u.oneCell' = true := by
  obtain ⟨nm, A, l, cap, rfl⟩ := h.form
  exact fone
theorem FS.push {w : World} {S : Nat → Prop} : ∀ {y : Fo} {c : List Value}, FS w 27 S y c →
    (∃ op nm p, y.kids = [] ∧ c = FV.c ⟨op, nm, none, 0, 0, p⟩) ∨
    ∃ op nm g cap news p, c = FV.c ⟨op, nm, some ⟨g, 0, none⟩, y.kids.length, cap, p⟩ ∧ 0 < y.kids.length ∧ news.length = y.kids.length * 4 ∧ (∀ (j : Nat) (u : Value), news[j]? = some u → w.cell? ((⟨g, 0, none⟩ : Addr).add j) = some u) ∧ (∀ u ∈ news, u.oneCell' = true) ∧ g < w.heap.size ∧
      ∀ r cs, StkF w S r cs → StkF w S (y.kids.reverse ++ r) (cs ++ news)
  | .leaf _ _ _, _, h => .inl ⟨_, _, _, rfl, h⟩
  | .un _ a _, _, ⟨g, cap, ca, h1, h2, h3⟩ => .inr ⟨_, _, g, cap, ca, _, h1, by simp [Fo.kids], by simp [Fo.kids, h3.len4], h2.cellsF, h3.one, (by obtain ⟨_, _, q, _⟩ := h2; exact blk_lt q), fun r cs hr => ⟨cs, ca, rfl, h3, hr⟩⟩
  | .bin _ a b _, _, ⟨g, cap, ca, cb, h1, h2, h3, h4⟩ => .inr ⟨_, _, g, cap, ca ++ cb, _, h1, by simp [Fo.kids], by simp [Fo.kids, h3.len4, h4.len4], h2.cellsF, (fun u hu => (List.mem_append.1 hu).elim (h3.one u) (h4.one u)), (by obtain ⟨_, _, q, _⟩ := h2; exact blk_lt q), fun r cs hr => ⟨cs ++ ca, cb, by simp, h4, ⟨cs, ca, rfl, h3, hr⟩⟩⟩
def sizesF : List Fo → Nat
  | [] => 0
  | x :: r => x.size + sizesF r
theorem sizesF_app : ∀ a b : List Fo, sizesF (a ++ b) = sizesF a + sizesF b
  | [], b => by simp [sizesF]
  | x :: a, b => by simp [sizesF, sizesF_app a b]; omega
theorem size_kidsF (x : Fo) : x.size = sizesF x.kids.reverse + 1 := by cases x <;> simp [Fo.size, Fo.kids, sizesF] <;> omega
theorem size_posF (x : Fo) : 0 < x.size := by cases x <;> simp [Fo.size]
def SzRelF (w : World) (S : Nat → Prop) (T : Nat) (i v : Value) (wr : World) : Prop :=
  ∃ r cs k, i = .int .i64 ((k : Nat) : Int) ∧ k ≤ 4097 ∧ k + sizesF r = T ∧ r.length ≤ 1 + 2 * k ∧ StkF w S r cs ∧ wr.ownsRow (w.heap.size + 1) 27 4 v r.length cs ∧ Below w.heap.size w wr
theorem ret_i64F {a b : Nat} (h : a = b) : Ending.returned (.int .i64 (a : Int)) = .returned (.int .i64 (b : Int)) := by rw [h]
theorem add_blkF (a : Addr) (n : Nat) : (a.add n).block = a.block := by unfold Addr.add; split <;> rfl
theorem own_geF {g k n c B : Nat} (h : (Value.slice (some ⟨g, 0, none⟩) n c).ownBlock = some k) (hg : B ≤ g) : B ≤ k := by
  have hk : g = k := by simpa [Value.ownBlock] using h
  omega
theorem kids3F (x : Fo) : x.kids.length ≤ 3 := by cases x <;> simp [Fo.kids]
set_option maxHeartbeats 2000000 in
theorem psize_any {x : Fo} {c : List Value} {S : Nat → Prop} (w : World) (h : FS w 27 S x c) : Calls Tryz.prog 38 #[.agg c.toArray] w fun e w' => e = .returned (.int .i64 ((min x.size 4097 : Nat) : Int)) ∧ Below w.heap.size w w' := by
  obtain ⟨nm, A, l, cap, rfl⟩ := h.form
  obtain ⟨i0, hi0, hz⟩ := Option.map_eq_some_iff.1 infoF
  simp only [Prod.mk.injEq] at hz
  obtain ⟨hz0, hz1, hz2⟩ := hz
  have HZ0 := Lib.hid hz0
  have HZ1 := Lib.hid hz1
  have HZ2 := Lib.hid hz2
  have HI := Lib.hid hi0
  have HH := Lib.hid h
  clear hz0 hz1 hz2 hi0 h
  change Calls Tryz.prog 38 #[.agg #[.string ⟨x.op.toArray⟩, .string nm, .slice A l cap, .int .i64 (x.pos : Int)]] w _
  go_enter Tryz.func38, Tryz.ntmps38
  go_wp2
  go_loopw [3, 4] (fun i v wr => SzRelF w S x.size i v wr) (fun i _ _ => 4097 - (intOf i).toNat)
  case atStart =>
    refine ⟨[x], _, 0, rfl, by omega, by simp [sizesF], by simp, ⟨[], _, rfl, HH.out, rfl⟩, ⟨rfl, .inr ⟨w.heap.size + 1, 1, _, rfl, Nat.le_refl _, heap_new_at (by simp) _, Nat.le_refl _, by unfold maxLen; omega, rfl, rfl⟩⟩, ((Below.refl _ _).alloc (Nat.le_refl _) _).alloc (by simp) _⟩
  case round =>
    obtain ⟨r, cs, k, rfl, hk, hsum, hlen, hst, hown, hb⟩ := hrel
    have HST := Lib.hid hst
    have HB := Lib.hid hb
    have HOW := Lib.hid hown
    have HS1 := Lib.hid hsum
    have HL := Lib.hid hlen
    clear hst hb hsum hlen
    cases r with
    | nil =>
      have hv := row_formsF hown
      have hx : x.size = k := by have := HS1.out; simp only [sizesF] at this; omega
      have g1 : min x.size 4097 = k := by omega
      clear hown
      rcases hv with ⟨rfl, _⟩ | ⟨g, cp, rfl⟩
      · go_wp2
        go_ret
        exact ⟨ret_i64F g1.symm, HB.out⟩
      · have g2 : decide (0 < ((([] : List Fo).length : Nat) : Int)) = false := rfl
        go_wp2
        go_ret
        exact ⟨ret_i64F g1.symm, HB.out⟩
    | cons y r =>
      obtain ⟨m, hm⟩ : ∃ m, m = r.length := ⟨_, rfl⟩
      rw [List.length_cons, ← hm] at hown
      have HOW := Lib.hid hown
      obtain ⟨g, cp, rfl⟩ := row_formF hown (by omega)
      obtain ⟨c0, c1, hcs, hy, hr⟩ := HST.out
      subst hcs
      have hm1 := HL.out
      rw [List.length_cons, ← hm] at hm1
      have g1 : decide ((0 : Int) < ((m + 1 : Nat) : Int)) = true := by rw [decide_eq_true_iff]; omega
      by_cases hk2 : k ≤ 4096
      · have g2 : decide ((k : Int) ≤ 4096) = true := by simp; omega
        have hcap : m + 1 ≤ cp := by
          rcases hown.2 with ⟨h0, _⟩ | ⟨g', cap', cur, hv, _, _, hn, _⟩
          · cases h0
          · cases hv; exact hn
        have hlen0 : c0.length = m * 4 := by rw [hr.len, hm]
        have hcell : w.heap.size + 1 ≤ g ∧ g < wr.heap.size := hown.lt g rfl
        have HC := Lib.hid (hown.cells (g := g) rfl)
        have HPOP := Lib.hid (ownsRow_pop hlen0 hown)
        have HY := Lib.hid hy
        have HR := Lib.hid hr
        have HM := Lib.hid hm
        have HL0 := Lib.hid hlen0
        clear hown HST hm hr hlen0
        have HK := Lib.hid (size_kidsF y)
        have HS2 := Lib.hid (show k + (y.size + sizesF r) = x.size from HS1.out)
        rcases hy.push with ⟨op, ym, yp, hk0, rfl⟩ | ⟨op, ym, yg, ycap, news, yp, rfl, hkp, hnl, hnc, hn1, hng, hpush⟩
        · have hc3 : wr.cell? ⟨g, m * 4 + 2, none⟩ = some (.slice none 0 0) := by
            have := HC.out (m * 4 + 2) (.slice none 0 0) (by rw [List.getElem?_append_right (by have := HL0.out; omega), HL0.out]; simp [FV.c])
            simpa [Addr.add] using this
          have HRel := Lib.hid (show k + 1 + sizesF r = x.size by have := HS2.out; have := HK.out; rw [hk0] at this; simp only [List.reverse_nil, sizesF] at this; omega)
          clear hy hk0 HOW
          go_wp2_with (at_builtin; refine wpList_append_own_none rfl _ _ 25 rfl (w.heap.size + 1) 27 i0 4 Tryz.underlying25 HI.out _ _ _ rfl HPOP.out rfl ?_)
          go_roundw
          case rel => exact ⟨r, c0, k + 1, by go_num, by omega, HRel.out, by have := HM.out; omega, HR.out, by rw [← HM.out]; exact HPOP.out, HB.out⟩
          case measure => simp [intOf]; omega
        · obtain ⟨q, hq⟩ : ∃ q, q = y.kids.length := ⟨_, rfl⟩
          have hq3 := kids3F y
          have HRel := Lib.hid (show k + 1 + sizesF (y.kids.reverse ++ r) = x.size by have := HS2.out; have := HK.out; rw [sizesF_app]; omega)
          have HLR := Lib.hid (show (y.kids.reverse ++ r).length = m + q by rw [List.length_append, List.length_reverse, ← hq, ← HM.out]; omega)
          rw [← hq] at hkp hnl hq3
          have hc3 : wr.cell? ⟨g, m * 4 + 2, none⟩ = some (.slice (some ⟨yg, 0, none⟩) q ycap) := by
            have := HC.out (m * 4 + 2) (.slice (some ⟨yg, 0, none⟩) q ycap) (by rw [List.getElem?_append_right (by have := HL0.out; omega), HL0.out, hq]; simp [FV.c])
            simpa [Addr.add] using this
          have HNC := Lib.hid (show ∀ (j : Nat) (u : Value), news[j]? = some u → wr.cell? ((⟨yg, 0, none⟩ : Addr).add j) = some u from fun j u hu => (HB.out.cell (by rw [add_blkF]; exact hng)).trans (hnc j u hu))
          have HN1 := Lib.hid hn1
          have HNL := Lib.hid hnl
          have HPU := Lib.hid (hpush r c0 HR.out)
          clear hy hnc hn1 hnl hpush HOW hq
          go_wp2_with (at_builtin; refine wpList_append_own_at _ rfl _ _ 25 rfl (w.heap.size + 1) 27 i0 (.agg #[.string ⟨#[]⟩, .string ⟨#[]⟩, .slice none 0 0, .int .i64 0]) 4 64 Tryz.underlying25 HI.out HZ0.out HZ1.out HZ2.out rfl (by decide) _ _ _ rfl HPOP.out ⟨yg, 0, none⟩ q ycap news rfl HNL.out HNC.out HN1.out (by unfold maxLen; omega) (by omega) (by omega) ?_; intro v' w' hown' hgrow hiff hat)
          have HOW2 := Lib.hid hown'
          have HB2 := Lib.hid (HB.out.grown hgrow HB.out.size (fun k hk => own_geF hk (by omega)))
          clear hown' hgrow hiff hat
          obtain ⟨g2, cp2, rfl⟩ := row_formF HOW2.out (by omega)
          go_wp2
          go_roundw
          case rel => exact ⟨_, _, k + 1, by go_num, by omega, HRel.out, by rw [HLR.out]; omega, HPU.out, by rw [HLR.out]; exact HOW2.out, HB2.out⟩
          case measure => simp [intOf]; omega
      · have hk3 : k = 4097 := by omega
        have g3 : min x.size 4097 = 4097 := by have := HS1.out; simp only [sizesF] at this; have := size_posF y; omega
        subst hk3
        clear hown
        go_wp2
        go_ret
        exact ⟨ret_i64F g3.symm, HB.out⟩
end Go.Proofs.YtmgjpjjglghbaaaGreatDoor
