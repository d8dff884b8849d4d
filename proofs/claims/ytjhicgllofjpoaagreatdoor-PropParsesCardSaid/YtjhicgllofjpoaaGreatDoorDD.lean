/-
  The document's ranks, numbers and shapes: plain lists. The document's ranks: walked. The document's digits: walked. The program's expression as the document's: walked. The document's reader of expressions in memory.
-/
import Derived.Test.YtjhicgllofjpoaaGreatDoorQW
import Derived.Test.YtjhicgllofjpoaaGreatDoorXC
import Derived.Laws.BytesArg
import Derived.Deep.RegionLaw
import Derived.Deep.AppendLies
import Derived.Test.YtjhicgllofjpoaaGreatDoorG1
import Derived.RegionTactic
namespace Go.Proofs.YtjhicgllofjpoaaGreatDoor
section
def rkL : Nat → List (List UInt8)
  | 0 => [[63]]
  | 1 => [[61, 62]]
  | 2 => [[124]]
  | 3 => [[38]]
  | 4 => [[33]]
  | 5 => [[61], [33, 61], [60], [60, 61], [62], [62, 61]]
  | 6 => [[43], [45]]
  | 7 => [[42]]
  | 8 => [[110, 101, 103]]
  | _ => []
theorem rk_mem (x : List UInt8) (k : Nat) (hk : k < 9) : x ∈ rkL k ↔ rk x = k := by
  constructor
  · intro h
    have : k = 0 ∨ k = 1 ∨ k = 2 ∨ k = 3 ∨ k = 4 ∨ k = 5 ∨ k = 6 ∨ k = 7 ∨ k = 8 := by omega
    rcases this with rfl | rfl | rfl | rfl | rfl | rfl | rfl | rfl | rfl <;>
      (simp only [rkL, List.mem_cons, List.not_mem_nil, or_false] at h) <;>
      (repeat' (rcases h with rfl | h)) <;> (first | (subst h; decide) | decide)
  · intro h
    unfold rk at h
    split at h
    · subst h; rename_i e; subst e; decide
    split at h
    · subst h; rename_i e; subst e; decide
    split at h
    · subst h; rename_i e; subst e; decide
    split at h
    · subst h; rename_i e; subst e; decide
    split at h
    · subst h; rename_i e; subst e; decide
    split at h
    · subst h; rename_i e
      simp only [cmpB, Bool.or_eq_true, beq_iff_eq] at e
      rcases e with ((((rfl | rfl) | rfl) | rfl) | rfl) | rfl <;> decide
    split at h
    · subst h; rename_i e
      rcases e with rfl | rfl <;> decide
    split at h
    · subst h; rename_i e; subst e; decide
    split at h
    · subst h; rename_i e; subst e; decide
    omega
theorem dgs_lt {n : Nat} (h : n < 10) (t : List UInt8) : UInt8.ofNat (48 + n) :: t = dgs n ++ t := by rw [dgs_small h]; rfl
theorem dgs_ge {n : Nat} (h : ¬ n < 10) (t : List UInt8) : dgs (n / 10) ++ UInt8.ofNat (48 + n % 10) :: t = dgs n ++ t := by
  have e : dgs n = dgs (n / 10) ++ [UInt8.ofNat (48 + n % 10)] := by unfold dgs; rw [Lib.decDigits, dif_neg h]
  rw [e, List.append_assoc]; rfl
/-- All of an expression, with places. -/
def shp : Ex → List UInt8
  | .leaf op nm n p => 40 :: (op ++ 32 :: (nm ++ 32 :: (dgs n ++ 32 :: (dgs p ++ [41]))))
  | .un op a p => 40 :: (op ++ 32 :: 32 :: (dgs 0 ++ 32 :: (dgs p ++ (shp a ++ [41]))))
  | .bin op a b p => 40 :: (op ++ 32 :: 32 :: (dgs 0 ++ 32 :: (dgs p ++ (shp a ++ (shp b ++ [41])))))
  | .cond a b c p => 40 :: ([63] ++ 32 :: 32 :: (dgs 0 ++ 32 :: (dgs p ++ (shp a ++ (shp b ++ (shp c ++ [41]))))))
end
section
open Go.RowKit Go.Sort

def InRel (x : List UInt8) (l : List (List UInt8)) (i : Value) : Prop := ∃ k : Nat, i = .int .i64 (k : Int) ∧ k ≤ l.length ∧ x ∉ l.take k
def InP (b : Bool) (w : World) (e : Ending) (w' : World) : Prop := e = .returned (.bool b) ∧ w = w'
/-- The table of ranks in memory. -/
def RkM (w : World) (L : Nat) : Prop := ∀ j, j < 9 → ∃ g, w.cell? ⟨L, j, none⟩ = some (.slice (some ⟨g, 0, none⟩) (rkL j).length (rkL j).length) ∧ w.heap[g]? = some (.cells ((rkL j).map strV).toArray 9 (0, 0))
theorem heap_old {w : World} {k : Nat} {o : Obj} (h : w.heap[k]? = some o) (o' : Obj) : (w.alloc o').heap[k]? = some o := (Below.heap_alloc w o' k (blk_lt h)).trans h
def RkRel (x : List UInt8) (L : Nat) (w : World) (i : Value) (wr : World) : Prop := ∃ k : Nat, i = .int .i64 (k : Int) ∧ k ≤ 9 ∧ k ≤ rk x ∧ RkM wr L ∧ Below w.heap.size w wr
def RrP (k : Nat) (w : World) (e : Ending) (w' : World) : Prop := e = .returned (.int .i64 (k : Int)) ∧ Below w.heap.size w w'
end
section
open Go.RowKit Go.Sort

theorem one_string (w : World) (c : UInt8) : (convert 84 9 (.slice (some ⟨w.heap.size, 0, none⟩) 1 1)).run Tryz.prog (w.alloc (.cells #[.int .u8 (c.toNat : Int)] 5)) = .ok (.string ⟨#[c]⟩) (w.alloc (.cells #[.int .u8 (c.toNat : Int)] 5)) := by
  have h := nums_bytes [c]
  simp only [List.map_cons, List.map_nil] at h
  have e : (⟨[c].toArray⟩ : ByteArray) = ⟨#[c]⟩ := rfl
  rw [← e, ← h]
  refine run_convert_bytes_arg _ 84 5 Tryz.underlying84 Tryz.underlying5 w.heap.size 0 1 1 [(c.toNat : Int)] rfl ?_ 9 Tryz.underlying9
  intro i hi
  obtain rfl : i = 0 := by omega
  exact (rd_cell (heap_alloc_new w _) 0).trans rfl
theorem ret_strD {s : ByteArray} {l : List UInt8} (h : s.data.toList = l) : Ending.returned (.string s) = .returned (strV l) := by rw [strV_eq h]
def DgRel (n : Nat) (w : World) (s u : Value) (wr : World) : Prop := ∃ (m : Nat) (t : List UInt8), u = .int .u64 (m : Int) ∧ s = .string ⟨t.toArray⟩ ∧ dgs m ++ t = dgs n ∧ m ≤ n ∧ Below w.heap.size w wr
def StP (l : List UInt8) (w : World) (e : Ending) (w' : World) : Prop := e = .returned (strV l) ∧ Below w.heap.size w w'
theorem dgs_lenD {n : Nat} (hn : n < 9223372036854775808) : (dgs n).length ≤ 20 := by
  unfold dgs
  rw [Lib.decDigits_length]
  by_cases h : n = 0
  · subst h; rw [Lib.nDigits_small (by omega)]; omega
  · have := Lib.numDigits_eq n (by omega) (by omega); split at this <;> omega
theorem dgs_ne (n : Nat) : 0 < (dgs n).length := dgs_pos n
set_option maxHeartbeats 2000000 in
set_option maxRecDepth 100000 in
theorem digits_any (n : Nat) (hn : n < 9223372036854775808) (w : World) : Calls Tryz.prog 31 #[.int .i64 (n : Int)] w (StP (dgs n) w) := by
  have HLN := Lib.hid (dgs_lenD hn)
  have hc0 : IntKind.u64.wrap (n : Int) = (n : Int) := by rw [IntKind.wrap_u64]; omega
  have g0 : decide ((n : Int) < 0) = false := by simp
  go_enter Tryz.func31, Tryz.ntmps31
  go_wp2
  go_loopw [3, 5] (fun s u wr => DgRel n w s u wr) (fun _ u _ => (intOf u).toNat)
  case atStart => exact ⟨n, [], rfl, rfl, by simp, Nat.le_refl _, Below.refl _ _⟩
  case round =>
    obtain ⟨m, t, rfl, rfl, ht, hm, hb⟩ := hrel
    have HT := Lib.hid ht
    have HB := Lib.hid hb
    clear ht hb
    have htl : t.length ≤ 20 := by have := congrArg List.length HT.out; rw [List.length_append] at this; have := HLN.out; omega
    obtain ⟨c, hc⟩ : ∃ c : UInt8, c = UInt8.ofNat (48 + m % 10) := ⟨_, rfl⟩
    have hq : IntKind.u8.wrap (48 + (m : Int) % 10) = (c.toNat : Int) := by rw [hc, IntKind.wrap_u8]; simp
    have hcv := one_string wr c
    have HC := Lib.hid hc
    clear hc
    by_cases h10 : m < 10
    · have g3 : ((m : Int) / 10 == 0) = true := by rw [beq_iff_eq]; omega
      have HR := Lib.hid (show c :: t = dgs n by rw [HC.out, show m % 10 = m from Nat.mod_eq_of_lt h10, dgs_lt h10, HT.out])
      clear h10
      go_wp2
      go_ret
      exact ⟨ret_strD (by simpa using HR.out), HB.out.alloc HB.out.size _⟩
    · have g3 : ((m : Int) / 10 == 0) = false := by rw [beq_eq_false_iff_ne]; omega
      have HR := Lib.hid (show DgRel n w (.string (⟨#[c]⟩ ++ ⟨t.toArray⟩)) (.int .u64 ((m : Int) / 10)) (wr.alloc (.cells #[.int .u8 (c.toNat : Int)] 5)) from
        ⟨m / 10, c :: t, by rw [show ((m : Int) / 10) = ((m / 10 : Nat) : Int) by omega], by rw [show ((⟨#[c]⟩ : ByteArray) ++ ⟨t.toArray⟩) = ⟨(c :: t).toArray⟩ by apply ByteArray.ext; simp], by rw [HC.out, dgs_ge h10, HT.out], by have : m / 10 ≤ m := Nat.div_le_self _ _; omega, HB.out.alloc HB.out.size _⟩)
      go_wp2
      go_roundw
      case rel => exact HR.out
      case measure => (have : 0 < m := by omega); (have : m / 10 < m := Nat.div_lt_self this (by omega)); simp [intOf]; omega
end
section
open Go.RowKit Go.Sort

/-- Expressions one behind the other. -/
def KL (w : World) (e : TypeId) (S : Nat → Prop) : List Ex → List Value → Prop
  | [], cs => cs = []
  | x :: r, cs => ∃ c c', cs = c ++ c' ∧ HS w e S x c ∧ KL w e S r c'
section
variable {w w' : World} {e : TypeId} {S T : Nat → Prop}
theorem KL.snoc : ∀ {r : List Ex} {cs : List Value} {x : Ex} {c : List Value}, KL w e S r cs → HS w e S x c → KL w e S (r ++ [x]) (cs ++ c)
  | [], _, x, c, h, hx => by rw [show _ = [] from h]; exact ⟨c, [], by simp, hx, rfl⟩
  | _ :: _, _, _, _, ⟨c0, c', h1, h2, h3⟩, hx => ⟨c0, c' ++ _, by rw [h1, List.append_assoc], h2, h3.snoc hx⟩
theorem KL.keep (hk : ∀ k, S k → k < w.heap.size → w'.heap[k]? = w.heap[k]?) : ∀ {r : List Ex} {cs : List Value}, KL w e S r cs → KL w' e S r cs
  | [], _, h => h
  | _ :: _, _, ⟨c0, c', h1, h2, h3⟩ => ⟨c0, c', h1, h2.keep hk, h3.keep hk⟩
theorem KL.wide (hb : ∀ k, k < w.heap.size → S k → T k) : ∀ {r : List Ex} {cs : List Value}, KL w e S r cs → KL w e T r cs
  | [], _, h => h
  | _ :: _, _, ⟨c0, c', h1, h2, h3⟩ => ⟨c0, c', h1, h2.wide hb, h3.wide hb⟩
theorem KL.len : ∀ {r : List Ex} {cs : List Value}, KL w e S r cs → cs.length = r.length * 5
  | [], _, h => by rw [show _ = [] from h]; rfl
  | _ :: _, _, ⟨c0, c', h1, h2, h3⟩ => by rw [h1, List.length_append, h2.len5, h3.len, List.length_cons]; omega
/-- Its kids' row lies in a block of its own. -/
def KO (lo : Nat) (v : Value) (j : Nat) : Prop := lo ≤ j ∧ some j ≠ v.ownBlock
theorem one_exC {o nm : ByteArray} {n : Int} {A : Option Addr} {l cap : Nat} {p : Int} : ∀ u ∈ exC o nm n A l cap p, u.oneCell' = true := by
  intro u hu
  simp only [exC, List.mem_cons, List.not_mem_nil, or_false] at hu
  rcases hu with rfl | rfl | rfl | rfl | rfl <;> rfl
theorem arr_of {lo g n cap : Nat} {cs : List Value} (h : w.ownsRow lo e 5 (.slice (some ⟨g, 0, none⟩) n cap) n cs) : Arr w e (fun j => lo ≤ j) g cs := by
  rcases h.2 with ⟨hx, _⟩ | ⟨g', cp, cur, hx, h1, h2, _⟩
  · cases hx
  · have : g' = g := by
      injection hx with hx
      injection hx with hx
      injection hx with hx
      exact hx.symm
    subst this
    refine ⟨h1, cur, h2, fun j u hu => ?_⟩
    have := h.cells (g := g') rfl j u hu
    have e2 : (⟨g', 0, none⟩ : Addr).add j = ⟨g', j, none⟩ := by
      unfold Addr.add
      by_cases hj : j = 0 <;> simp [hj]
    rw [e2, rd_cell h2] at this
    exact this
theorem HS.mk : ∀ {x : Ex} {lo : Nat} {A : Option Addr} {n cap : Nat} {cs : List Value}, n = x.kids.length → (n = 0 → A = none ∧ cap = 0) → w.ownsRow lo e 5 (.slice A n cap) n cs → KL w e (fun j => lo ≤ j) x.kids cs → HS w e (fun j => lo ≤ j) x (exC ⟨x.op.toArray⟩ ⟨x.nm.toArray⟩ (x.num : Int) A n cap (x.pos : Int))
  | .leaf op nm m p, lo, A, n, cap, cs, hn, h0, _, _ => by
    obtain ⟨rfl, rfl⟩ := h0 hn
    have : n = 0 := hn
    subst this
    rfl
  | .un op a p, lo, A, n, cap, cs, hn, h0, ho, ⟨c, c', h1, h2, h3⟩ => by
    have hn : n = 1 := hn
    subst hn
    obtain ⟨g, cap', hv⟩ := owns_form ho (by omega)
    injection hv with hA
    subst hA
    have hr := arr_of ho
    rw [h1, show c' = [] from h3, List.append_nil] at hr
    exact ⟨g, cap, c, rfl, hr, h2⟩
  | .bin op a b p, lo, A, n, cap, cs, hn, h0, ho, ⟨c, c', h1, h2, c2, c3, h3, h4, h5⟩ => by
    have hn : n = 2 := hn
    subst hn
    obtain ⟨g, cap', hv⟩ := owns_form ho (by omega)
    injection hv with hA
    subst hA
    have hr := arr_of ho
    rw [h1, h3, show c3 = [] from h5, List.append_nil] at hr
    exact ⟨g, cap, c, c2, rfl, hr, h2, h4⟩
  | .cond a b d p, lo, A, n, cap, cs, hn, h0, ho, ⟨c, c', h1, h2, c2, c3, h3, h4, c4, c5, h5, h6, h7⟩ => by
    have hn : n = 3 := hn
    subst hn
    obtain ⟨g, cap', hv⟩ := owns_form ho (by omega)
    injection hv with hA
    subst hA
    have hr := arr_of ho
    rw [h1, h3, h5, show c5 = [] from h7, List.append_nil] at hr
    exact ⟨g, cap, c, c2, c4, rfl, hr, h2, h4, h6⟩
end
theorem heap_oldT {w : World} {k : Nat} {o : Obj} (h : w.heap[k]? = some o) (o' : Obj) : (w.alloc o').heap[k]? = some o := (Below.heap_alloc w o' k (blk_lt h)).trans h
theorem infoR : (Tryz.prog.info? 74).map (fun i => (i.zero, i.size, i.bytes)) = some (some (.agg #[.string ⟨#[]⟩, .string ⟨#[]⟩, .int .i64 0, .slice none 0 0, .int .i64 0]), 5, 72) := by kernel_rfl
theorem own_ne2 {w : World} {lo k : Nat} {e : TypeId} {sz n : Nat} {v : Value} {cs : List Value} (h : w.ownsRow lo e sz v n cs) (hk : k < lo) : some k ≠ v.ownBlock := by
  intro e1
  have := (h.lt k e1.symm).1
  omega
/-- What To leaves. -/
def ToP (x : Ex) (w : World) (e : Ending) (w' : World) : Prop := ∃ o nm n A l cap p, e = .returned (.agg #[.string o, .string nm, .int .i64 n, .slice A l cap, .int .i64 p]) ∧ HC w' 74 w.heap.size w'.heap.size x (exC o nm n A l cap p) ∧ Below w.heap.size w w'
def BoxR (w : World) (b : Nat) (c0 c1 c2 c3 c4 : Value) : Prop := w.heap[b]? = some (.cells #[c0, c1, c2, c3, c4] 74 (0, 0))
section
variable {w w' : World} {b : Nat} {c0 c1 c2 c3 c4 : Value}
theorem BoxR.lt (h : BoxR w b c0 c1 c2 c3 c4) : b < w.heap.size := blk_lt h
theorem BoxR.below (h : BoxR w b c0 c1 c2 c3 c4) (hb : Below w.heap.size w w') : BoxR w' b c0 c1 c2 c3 c4 := (hb.block b h.lt).trans h
theorem BoxR.cells (h : BoxR w b c0 c1 c2 c3 c4) : w.cell? ⟨b, 0, none⟩ = some c0 ∧ w.cell? ⟨b, 1, none⟩ = some c1 ∧ w.cell? ⟨b, 2, none⟩ = some c2 ∧ w.cell? ⟨b, 3, none⟩ = some c3 ∧ w.cell? ⟨b, 4, none⟩ = some c4 :=
  ⟨(rd_cell h 0).trans rfl, (rd_cell h 1).trans rfl, (rd_cell h 2).trans rfl, (rd_cell h 3).trans rfl, (rd_cell h 4).trans rfl⟩
theorem BoxR.frozen (h : BoxR w b c0 c1 c2 c3 c4) (i : Nat) : w.frozen? ⟨b, i, none⟩ = false := rd_frozen h i
theorem BoxR.set3 (h : BoxR w b c0 c1 c2 c3 c4) (u : Value) : BoxR (w.setCell ⟨b, 3, none⟩ u) b c0 c1 c2 u c4 := by
  have := blk_set (i := 3) h u; simpa [BoxR] using this
theorem BoxR.set5 (h : BoxR w b c0 c1 c2 c3 c4) (x0 x1 x2 x3 x4 : Value) : BoxR (((((w.setCell ⟨b, 0, none⟩ x0).setCell ⟨b, 1, none⟩ x1).setCell ⟨b, 2, none⟩ x2).setCell ⟨b, 3, none⟩ x3).setCell ⟨b, 4, none⟩ x4) b x0 x1 x2 x3 x4 := by
  have h0 := blk_set (i := 0) h x0
  have h1 := blk_set (i := 1) h0 x1
  have h2 := blk_set (i := 2) h1 x2
  have h3 := blk_set (i := 3) h2 x3
  have h4 := blk_set (i := 4) h3 x4
  simpa [BoxR] using h4
end
end
section
open Go.RowKit

/-- At tokens that are left; the first error's number (0: none), and its place. -/
structure DR (w : World) (pb D : Nat) (us : List Tok) (c : Nat) (q : Int) : Prop where
  blk : ∃ (ts : List Tok) (k g cap : Nat), us = ts.drop k ∧ k < ts.length ∧ ts.length ≤ 65537 ∧ w.heap[pb]? = some (.cells #[.slice (some ⟨g, 0, none⟩) ts.length cap, .int .i64 (k : Int), .int .i64 (D : Int), .int .i64 (c : Int), .int .i64 q] 68 (0, 0)) ∧ w.ownsRow 0 70 3 (.slice (some ⟨g, 0, none⟩) ts.length cap) ts.length (cellsT ts)
  fine : Fine us
  dep : D ≤ 64
section
variable {w w' : World} {pb D : Nat} {us : List Tok} {c : Nat} {q : Int}
theorem DR.lt (h : DR w pb D us c q) : pb < w.heap.size := by
  obtain ⟨_, _, _, _, _, _, _, h1, _⟩ := h.blk
  exact blk_lt h1
theorem DR.below (h : DR w pb D us c q) (hb : Below w.heap.size w w') : DR w' pb D us c q := by
  have hl := h.lt
  obtain ⟨ts, k, g, cap, h1, h2, h3, h4, h5⟩ := h.blk
  exact ⟨⟨ts, k, g, cap, h1, h2, h3, (hb.block pb hl).trans h4, owns_below h5 hb⟩, h.fine, h.dep⟩
theorem DR.alloc (h : DR w pb D us c q) (o : Obj) : DR (w.alloc o) pb D us c q := h.below ((Below.refl _ _).alloc (Nat.le_refl _) _)
theorem DR.drew (h : DR w pb D us c q) : DR w.drew pb D us c q := h.below (Below.refl _ _).drew
/-- A store elsewhere. -/
theorem DR.set {b i : Nat} (h : DR w pb D us c q) {cs : Array Value} {e : TypeId} (hb : w.heap[b]? = some (.cells cs e (0, 0))) (h1 : e ≠ 68) (h2 : e ≠ 70) (u : Value) : DR (w.setCell ⟨b, i, none⟩ u) pb D us c q := by
  obtain ⟨ts, k, g, cap, q1, q2, q3, q4, q5⟩ := h.blk
  have hrb : pb ≠ b := by
    rintro rfl
    rw [q4] at hb
    injection hb with hb
    injection hb with _ hb
    exact h1 hb.symm
  have hg : g ≠ b := by
    rintro rfl
    rcases q5.2 with ⟨hx, _⟩ | ⟨g', _, cur, hx, _, hh, _⟩
    · cases hx
    · injection hx with hx
      injection hx with hx
      injection hx with hx
      subst hx
      rw [hb] at hh
      injection hh with hh
      injection hh with _ hh
      exact h2 hh
  have hgr : w.grownBy (w.setCell ⟨b, i, none⟩ u) (some b) := ⟨rfl, rfl, rfl, by simp, fun k _ hn => Below.heap_setCell w ⟨b, i, none⟩ u k (fun e => hn (by rw [e]))⟩
  refine ⟨⟨ts, k, g, cap, q1, q2, q3, (Below.heap_setCell w ⟨b, i, none⟩ u pb hrb).trans q4, q5.kept hgr (.inr ?_)⟩, h.fine, h.dep⟩
  intro e
  exact hg (by simpa [Value.ownBlock] using e)
theorem DR.set5 (h : DR w pb D us c q) {b : Nat} {e : TypeId} {c0 c1 c2 c3 c4 : Value} (hb : w.heap[b]? = some (.cells #[c0, c1, c2, c3, c4] e (0, 0))) (h1 : e ≠ 68) (h2 : e ≠ 70) (x0 x1 x2 x3 x4 : Value) : DR (((((w.setCell ⟨b, 0, none⟩ x0).setCell ⟨b, 1, none⟩ x1).setCell ⟨b, 2, none⟩ x2).setCell ⟨b, 3, none⟩ x3).setCell ⟨b, 4, none⟩ x4) pb D us c q := by
  have k0 := blk_set (i := 0) hb x0
  have k1 := blk_set (i := 1) k0 x1
  have k2 := blk_set (i := 2) k1 x2
  have k3 := blk_set (i := 3) k2 x3
  exact ((((h.set hb h1 h2 x0).set k0 h1 h2 x1).set k1 h1 h2 x2).set k2 h1 h2 x3).set k3 h1 h2 x4
/-- What the walk reads of it. -/
theorem DR.view (h : DR w pb D us c q) : ∃ (k g n cap : Nat), w.heap[pb]? = some (.cells #[.slice (some ⟨g, 0, none⟩) n cap, .int .i64 (k : Int), .int .i64 (D : Int), .int .i64 (c : Int), .int .i64 q] 68 (0, 0)) ∧ k < n ∧ n ≤ 65537 ∧ w.cell? ⟨g, k * 3, none⟩ = some (.int .i64 (hd us).kind) ∧ w.cell? ⟨g, k * 3 + 1, none⟩ = some (.string ⟨(hd us).text.toArray⟩) ∧ w.cell? ⟨g, k * 3 + 2, none⟩ = some (.int .i64 (hd us).pos) ∧ g < w.heap.size ∧ g ≠ pb := by
  obtain ⟨ts, k, g, cap, q1, q2, q3, q4, q5⟩ := h.blk
  have ht : ts[k]? = some (hd us) := by rw [q1, List.drop_eq_getElem_cons q2, List.getElem?_eq_getElem q2]; rfl
  obtain ⟨c0, c1, c2⟩ := tok_cells q5 ht
  refine ⟨k, g, ts.length, cap, q4, q2, q3, c0, c1, c2, (q5.lt g rfl).2, ?_⟩
  rintro rfl
  rcases q5.2 with ⟨hx, _⟩ | ⟨g', _, cur, hx, _, hh, _⟩
  · cases hx
  · injection hx with hx
    injection hx with hx
    injection hx with hx
    subst hx
    rw [q4] at hh
    injection hh with hh
    injection hh with _ hh
    exact absurd hh (by decide)
theorem DR.cells (h : DR w pb D us c q) : w.cell? ⟨pb, 2, none⟩ = some (.int .i64 (D : Int)) ∧ w.cell? ⟨pb, 3, none⟩ = some (.int .i64 (c : Int)) ∧ w.cell? ⟨pb, 4, none⟩ = some (.int .i64 q) ∧ (∀ i, w.frozen? ⟨pb, i, none⟩ = false) := by
  obtain ⟨_, _, _, _, _, _, _, h1, _⟩ := h.blk
  exact ⟨(rd_cell h1 2).trans rfl, (rd_cell h1 3).trans rfl, (rd_cell h1 4).trans rfl, rd_frozen h1⟩
theorem DR.own (h : DR w pb D us c q) (i : Nat) (u : Value) : ∃ (ts : List Tok) (k g cap : Nat), us = ts.drop k ∧ k < ts.length ∧ ts.length ≤ 65537 ∧ w.heap[pb]? = some (.cells #[.slice (some ⟨g, 0, none⟩) ts.length cap, .int .i64 (k : Int), .int .i64 (D : Int), .int .i64 (c : Int), .int .i64 q] 68 (0, 0)) ∧ (w.setCell ⟨pb, i, none⟩ u).ownsRow 0 70 3 (.slice (some ⟨g, 0, none⟩) ts.length cap) ts.length (cellsT ts) := by
  obtain ⟨_, _, _, _, _, _, _, _, _, _, _, _⟩ := h.view
  obtain ⟨ts, k, g, cap, q1, q2, q3, q4, q5⟩ := h.blk
  refine ⟨ts, k, g, cap, q1, q2, q3, q4, q5.1, ?_⟩
  rcases q5.2 with h | ⟨g', cp, cur, hx, h1, h2, h3⟩
  · exact .inl h
  · refine .inr ⟨g', cp, cur, hx, h1, (Below.heap_setCell w ⟨pb, i, none⟩ u g' (fun e => ?_)).trans h2, h3⟩
    have e : g' = pb := e
    subst e
    rw [q4] at h2
    injection h2 with h2
    injection h2 with _ h2
    exact absurd h2 (by decide)
/-- It has gone on. -/
theorem DR.tail (h : DR w pb D us c q) (h0 : (hd us).kind ≠ 0) : ∃ k : Nat, w.cell? ⟨pb, 1, none⟩ = some (.int .i64 (k : Int)) ∧ k ≤ 65537 ∧ DR (w.setCell ⟨pb, 1, none⟩ (.int .i64 ((k : Int) + 1))) pb D us.tail c q := by
  obtain ⟨ts0, k0, g0, cap0, q1, q2, q3, q4, q5⟩ := h.blk
  obtain ⟨ts, k, g, cap, e1, e2, e3, e4, e5⟩ := h.own 1 (.int .i64 ((k0 : Int) + 1))
  have hk : k0 = k := by
    have e4 := e4
    rw [q4] at e4
    injection e4 with e4
    injection e4 with e4
    simp at e4
    have := e4.2
    omega
  subst hk
  have hm := h.fine.more h0
  have hk : k0 + 1 < ts.length := by
    have := hm.2
    rw [e1, List.tail_drop] at this
    apply Classical.byContradiction
    intro hx
    exact this (List.drop_eq_nil_of_le (by omega))
  refine ⟨k0, (rd_cell q4 1).trans rfl, by omega, ⟨ts, k0 + 1, g, cap, by rw [e1, List.tail_drop], hk, e3, ?_, e5⟩, hm.1, h.dep⟩
  have := blk_set (i := 1) e4 (.int .i64 ((k0 : Int) + 1))
  simpa using this
theorem DR.setErr (h : DR w pb D us c q) (c' : Nat) : DR (w.setCell ⟨pb, 3, none⟩ (.int .i64 (c' : Int))) pb D us c' q := by
  obtain ⟨ts, k, g, cap, e1, e2, e3, e4, e5⟩ := h.own 3 (.int .i64 (c' : Int))
  refine ⟨⟨ts, k, g, cap, e1, e2, e3, ?_, e5⟩, h.fine, h.dep⟩
  have := blk_set (i := 3) e4 (.int .i64 (c' : Int))
  simpa using this
theorem DR.setPos (h : DR w pb D us c q) (q' : Int) : DR (w.setCell ⟨pb, 4, none⟩ (.int .i64 q')) pb D us c q' := by
  obtain ⟨ts, k, g, cap, e1, e2, e3, e4, e5⟩ := h.own 4 (.int .i64 q')
  refine ⟨⟨ts, k, g, cap, e1, e2, e3, ?_, e5⟩, h.fine, h.dep⟩
  have := blk_set (i := 4) e4 (.int .i64 q')
  simpa using this
end
/-- It has failed, or stands at the tokens that are left. -/
def DS (w : World) (pb D : Nat) : St → Prop
  | .good us => DR w pb D us 0 (-1)
  | .bad c q => c ≠ 0 ∧ ∃ us, DR w pb D us c (q : Int)
def errOf : St → Nat
  | .good _ => 0
  | .bad c _ => c
section
variable {w w' : World} {pb D : Nat} {st : St}
theorem DS.any (h : DS w pb D st) : ∃ us q, DR w pb D us (errOf st) q := by
  cases st with
  | good us => exact ⟨us, -1, h⟩
  | bad c q => obtain ⟨_, us, h⟩ := h; exact ⟨us, _, h⟩
theorem DS.lt (h : DS w pb D st) : pb < w.heap.size := by obtain ⟨_, _, h⟩ := h.any; exact h.lt
theorem DS.below (h : DS w pb D st) (hb : Below w.heap.size w w') : DS w' pb D st := by
  cases st with
  | good us => exact DR.below h hb
  | bad c q => obtain ⟨h0, us, h⟩ := h; exact ⟨h0, us, h.below hb⟩
theorem DS.alloc (h : DS w pb D st) (o : Obj) : DS (w.alloc o) pb D st := h.below ((Below.refl _ _).alloc (Nat.le_refl _) _)
theorem DS.set5 (h : DS w pb D st) {b : Nat} {e : TypeId} {c0 c1 c2 c3 c4 : Value} (hb : w.heap[b]? = some (.cells #[c0, c1, c2, c3, c4] e (0, 0))) (h1 : e ≠ 68) (h2 : e ≠ 70) (x0 x1 x2 x3 x4 : Value) : DS (((((w.setCell ⟨b, 0, none⟩ x0).setCell ⟨b, 1, none⟩ x1).setCell ⟨b, 2, none⟩ x2).setCell ⟨b, 3, none⟩ x3).setCell ⟨b, 4, none⟩ x4) pb D st := by
  cases st with
  | good us => exact DR.set5 h hb h1 h2 _ _ _ _ _
  | bad c q => obtain ⟨h0, us, h⟩ := h; exact ⟨h0, us, h.set5 hb h1 h2 _ _ _ _ _⟩
theorem DS.cells (h : DS w pb D st) : w.cell? ⟨pb, 2, none⟩ = some (.int .i64 (D : Int)) ∧ w.cell? ⟨pb, 3, none⟩ = some (.int .i64 (errOf st : Int)) ∧ (∀ i, w.frozen? ⟨pb, i, none⟩ = false) := by
  obtain ⟨_, _, h⟩ := h.any
  obtain ⟨h1, h2, _, h3⟩ := h.cells
  exact ⟨h1, h2, h3⟩
end
/-- What one of its readers leaves: an expression, or none that counts. -/
def DP (pb D : Nat) (res : Option Ex × St) (w : World) (e : Ending) (w' : World) : Prop :=
  ∃ o nm n A l cap p, e = .returned (.agg #[.string o, .string nm, .int .i64 n, .slice A l cap, .int .i64 p]) ∧ Fr w.heap.size pb w w' ∧ DS w' pb D res.2 ∧ ∀ x, res.1 = some x → HC w' 74 w.heap.size w'.heap.size x (exC o nm n A l cap p)
def zeroE : Value := .agg #[.string ⟨#[]⟩, .string ⟨#[]⟩, .int .i64 0, .slice none 0 0, .int .i64 0]
theorem fieldr2 (a b c : Value) (w : World) : (Instr.field 70 (.agg #[a, b, c]) 2).run Tryz.prog w = .ok c w := by kernel_rfl
theorem fieldr1 (a b c : Value) (w : World) : (Instr.field 70 (.agg #[a, b, c]) 1).run Tryz.prog w = .ok b w := by kernel_rfl
theorem fieldr0 (a b c : Value) (w : World) : (Instr.field 70 (.agg #[a, b, c]) 0).run Tryz.prog w = .ok a w := by kernel_rfl
set_option maxHeartbeats 1000000 in
theorem rnow_any {w : World} {pb D : Nat} {us : List Tok} {c : Nat} {q : Int} (h : DR w pb D us c q) : Calls Tryz.prog 28 #[.pointer (some ⟨pb, 0, none⟩)] w fun e w' => e = .returned (.agg #[.int .i64 (hd us).kind, .string ⟨(hd us).text.toArray⟩, .int .i64 (hd us).pos]) ∧ Below w.heap.size w w' := by
  have hl := h.lt
  obtain ⟨k, g, n, cap, h1, h2, h3, c0, c1, c2, hg, hne⟩ := h.view
  have r0 := rd_cell h1 0
  have r1 := rd_cell h1 1
  simp only [List.getElem?_toArray, List.getElem?_cons_zero, List.getElem?_cons_succ] at r0 r1
  have k0 : (0 : Int) ≤ (k : Int) := by omega
  have k1 : (k : Int) < (n : Int) := by omega
  clear h1 h hne
  generalize (⟨(hd us).text.toArray⟩ : ByteArray) = tb at *
  generalize ((hd us).kind : Int) = kd at *
  generalize ((hd us).pos : Int) = ps at *
  go_enter Tryz.func28, Tryz.ntmps28
  go_wp2
  go_region
  go_wp2
  exact bodyPost_ret (v := .agg #[.int .i64 kd, .string tb, .int .i64 ps]) (by simp [results, Tryz.results28, go_sem]) rfl ⟨rfl, ((Below.refl _ _).alloc (Nat.le_refl _) _).drew⟩
set_option maxHeartbeats 1000000 in
theorem ris_any {w : World} {pb D : Nat} {us : List Tok} {c : Nat} {q : Int} (h : DR w pb D us c q) (x : ByteArray) : Calls Tryz.prog 40 #[.pointer (some ⟨pb, 0, none⟩), .string x] w fun e w' => e = .returned (.bool (isT (hd us) x.data.toList)) ∧ Below w.heap.size w w' := by
  have H := Lib.hid (rnow_any h)
  obtain ⟨t, ht⟩ : ∃ t, t = hd us := ⟨_, rfl⟩
  rw [← ht] at H ⊢
  have HX := Lib.hid (show (t.text == x.toList) = (t.text == x.data.toList) by rw [ByteArray.toList_eq])
  unfold isT
  clear h ht
  by_cases h1 : t.kind = 1
  · have e1 : (t.kind == 1 || t.kind == 4) = true := by simp [h1]
    rw [e1, Bool.true_and]
    have g1 : ((t.kind : Int) == 1) = true := by simp [h1]
    clear e1 h1
    go_enter Tryz.func40, Tryz.ntmps40
    go_wp2_with fail
    with_reducible refine (H.out).mono ?_
    rintro e w1 ⟨rfl, hb⟩
    go_wp2
    go_ret
    exact ⟨by rw [← HX.out]; rfl, hb.alloc hb.size _⟩
  by_cases h4 : t.kind = 4
  · have e1 : (t.kind == 1 || t.kind == 4) = true := by simp [h4]
    rw [e1, Bool.true_and]
    have g1 : ((t.kind : Int) == 1) = false := by simp [h4]
    have g2 : ((t.kind : Int) == 4) = true := by simp [h4]
    clear e1 h1 h4
    go_enter Tryz.func40, Tryz.ntmps40
    go_wp2_with fail
    with_reducible refine (H.out).mono ?_
    rintro e w1 ⟨rfl, hb⟩
    go_wp2
    go_ret
    exact ⟨by rw [← HX.out]; rfl, hb.alloc hb.size _⟩
  · have e1 : (t.kind == 1 || t.kind == 4) = false := by simp [h1, h4]
    rw [e1, Bool.false_and]
    have g1 : ((t.kind : Int) == 1) = false := by rw [beq_eq_false_iff_ne]; omega
    have g2 : ((t.kind : Int) == 4) = false := by rw [beq_eq_false_iff_ne]; omega
    clear e1 h1 h4
    go_enter Tryz.func40, Tryz.ntmps40
    go_wp2_with fail
    with_reducible refine (H.out).mono ?_
    rintro e w1 ⟨rfl, hb⟩
    go_wp2
    go_ret
    exact ⟨rfl, hb.alloc hb.size _⟩
theorem Fr.boxR {B pb b : Nat} {a w : World} (h : Fr B pb a w) (hb : B ≤ b) (x0 x1 x2 x3 x4 : Value) : Fr B pb a (((((w.setCell ⟨b, 0, none⟩ x0).setCell ⟨b, 1, none⟩ x1).setCell ⟨b, 2, none⟩ x2).setCell ⟨b, 3, none⟩ x3).setCell ⟨b, 4, none⟩ x4) := h.set5 hb _ _ _ _ _
theorem BoxR.new (w : World) (c0 c1 c2 c3 c4 : Value) : BoxR (w.alloc (.cells #[c0, c1, c2, c3, c4] 74)) w.heap.size c0 c1 c2 c3 c4 := heap_alloc_new w _
theorem BoxR.alloc {w : World} {b : Nat} {c0 c1 c2 c3 c4 : Value} (h : BoxR w b c0 c1 c2 c3 c4) (o : Obj) : BoxR (w.alloc o) b c0 c1 c2 c3 c4 := h.below ((Below.refl _ _).alloc (Nat.le_refl _) _)
theorem BoxR.far {w : World} {b : Nat} {c0 c1 c2 c3 c4 : Value} (h : BoxR w b c0 c1 c2 c3 c4) {p : Addr} (hp : b ≠ p.block) (u : Value) : BoxR (w.setCell p u) b c0 c1 c2 c3 c4 := (Below.heap_setCell w p u b hp).trans h
theorem BoxR.fr {w w' : World} {b pb : Nat} {c0 c1 c2 c3 c4 : Value} (h : BoxR w b c0 c1 c2 c3 c4) (hf : Fr w.heap.size pb w w') (hn : b ≠ pb) : BoxR w' b c0 c1 c2 c3 c4 := (hf.block b h.lt hn).trans h
set_option maxHeartbeats 1000000 in
theorem rfail_any {w : World} {pb D : Nat} {st : St} (h : DS w pb D st) (c : Nat) (hc : c ≠ 0) (z : Int) (hz : z = (c : Int)) : Calls Tryz.prog 29 #[.pointer (some ⟨pb, 0, none⟩), .int .i64 z] w fun e w' => e = .returned zeroE ∧ Fr w.heap.size pb w w' ∧ DS w' pb D (st.fail c) := by
  subst hz
  unfold zeroE
  have hl := h.lt
  cases st with
  | bad c0 q0 =>
    obtain ⟨hc0, us, h⟩ := h
    obtain ⟨e2, e3, e4, ef⟩ := h.cells
    have g0 : ((c0 : Int) == 0) = false := by rw [beq_eq_false_iff_ne]; omega
    have HB := Lib.hid (BoxR.new w (.string ⟨#[]⟩) (.string ⟨#[]⟩) (.int .i64 0) (.slice none 0 0) (.int .i64 0))
    have HR := Lib.hid h
    clear h
    go_enter Tryz.func29, Tryz.ntmps29
    go_wp2
    obtain ⟨d0, d1, d2, d3, d4⟩ := HB.out.cells
    refine bodyPost_ret (v := .agg #[.string ⟨#[]⟩, .string ⟨#[]⟩, .int .i64 0, .slice none 0 0, .int .i64 0]) (by simp [results, Tryz.results29, go_sem, d0, d1, d2, d3, d4]) rfl ⟨rfl, ?_, hc0, us, ?_⟩
    · exact (Fr.refl _ _ _).alloc (Nat.le_refl _) _
    · exact HR.out.alloc _
  | good us =>
    have h : DR w pb D us 0 (-1) := h
    obtain ⟨e2, e3, e4, ef⟩ := h.cells
    have f3 := ef 3
    have f4 := ef 4
    clear ef
    have HB := Lib.hid (BoxR.new w (.string ⟨#[]⟩) (.string ⟨#[]⟩) (.int .i64 0) (.slice none 0 0) (.int .i64 0))
    have HR := Lib.hid h
    clear h
    go_enter Tryz.func29, Tryz.ntmps29
    go_wp2_with fail
    refine calls_gen (P := fun W => DR W pb D us c (-1) ∧ BoxR W w.heap.size (.string ⟨#[]⟩) (.string ⟨#[]⟩) (.int .i64 0) (.slice none 0 0) (.int .i64 0) ∧ Fr w.heap.size pb w W) ⟨(HR.out.setErr c).alloc _, heapN (by simp) _, ((Fr.refl _ _ _).setCell (p := ⟨pb, 3, none⟩) (.inr rfl) _).alloc (by simp) _⟩ ?_
    rintro W ⟨hD, hB, hF⟩
    refine (rnow_any hD).mono ?_
    rintro e w1 ⟨rfl, hb1⟩
    have HD1 := Lib.hid (hD.below hb1)
    have HB1 := Lib.hid (hB.below hb1)
    have HF1 := Lib.hid (hF.onB hF.size hb1)
    have f4 := HD1.out.cells.2.2.2 4
    have c4 := HD1.out.cells.2.2.1
    have hl1 := HD1.out.lt
    have hf2 := fieldr2
    obtain ⟨b0, b1, b2, b3, b4⟩ := HB1.out.cells
    have z0 := HB1.out.frozen 0
    have z1 := HB1.out.frozen 1
    have z2 := HB1.out.frozen 2
    have z3 := HB1.out.frozen 3
    have z4 := HB1.out.frozen 4
    have hbl := HB1.out.lt
    have hne : w.heap.size ≠ pb := by omega
    clear hD hB hF hb1 f3
    go_wp2
    have HBF := HB1.out.far (p := ⟨pb, 4, none⟩) hne (.int .i64 ((hd us).pos : Int))
    obtain ⟨d0, d1, d2, d3, d4⟩ := (HBF.set5 (.string ⟨#[]⟩) (.string ⟨#[]⟩) (.int .i64 0) (.slice none 0 0) (.int .i64 0)).cells
    refine bodyPost_ret (v := .agg #[.string ⟨#[]⟩, .string ⟨#[]⟩, .int .i64 0, .slice none 0 0, .int .i64 0]) (by simp [results, Tryz.results29, go_sem, d0, d1, d2, d3, d4]) rfl ⟨rfl, ?_, hc, us, ?_⟩
    · exact (HF1.out.setCell (p := ⟨pb, 4, none⟩) (.inr rfl) _).boxR (Nat.le_refl _) _ _ _ _ _
    · exact (HD1.out.setPos _).set5 HBF (by decide) (by decide) _ _ _ _ _
set_option maxHeartbeats 1000000 in
theorem rwant_any {w : World} {pb D : Nat} {st : St} (h : DS w pb D st) (x : ByteArray) : Calls Tryz.prog 41 #[.pointer (some ⟨pb, 0, none⟩), .string x] w fun e w' => e = .returned (.tuple #[]) ∧ Fr w.heap.size pb w w' ∧ DS w' pb D (st.want x.data.toList) := by
  have hl := h.lt
  cases st with
  | bad c0 q0 =>
    have HS := Lib.hid h
    obtain ⟨hc0, us, h⟩ := h
    obtain ⟨e2, e3, e4, ef⟩ := h.cells
    have g0 : ((c0 : Int) != 0) = true := by rw [bne_iff_ne]; omega
    clear h
    go_enter Tryz.func41, Tryz.ntmps41
    go_wp2
    exact bodyPost_ret (v := .tuple #[]) (results_none rfl _ _ _) rfl ⟨rfl, Fr.refl _ _ _, HS.out⟩
  | good us =>
    have h : DR w pb D us 0 (-1) := h
    obtain ⟨e2, e3, e4, ef⟩ := h.cells
    have H := Lib.hid (ris_any h x)
    have HR := Lib.hid h
    cases hi : isT (hd us) x.data.toList with
    | false =>
      rw [hi] at H
      have HW := Lib.hid (show (St.good us).want x.data.toList = (St.good us).fail 20 by unfold St.want; rw [show (St.good us).hd = hd us from rfl, hi]; rfl)
      clear h hi ef
      go_enter Tryz.func41, Tryz.ntmps41
      go_wp2_with fail
      refine (H.out).mono ?_
      rintro e w1 ⟨rfl, hb1⟩
      have HD1 := Lib.hid (show DS w1 pb D (.good us) from HR.out.below hb1)
      have HF1 := Lib.hid (Fr.of (rb := pb) hb1)
      clear hb1
      go_wp2_with fail
      refine (rfail_any HD1.out 20 (by decide) 20 rfl).mono ?_
      rintro e w2 ⟨rfl, hF2, hD2⟩
      have HD2 := Lib.hid hD2
      have HF2 := Lib.hid (HF1.out.on HF1.out.size hF2)
      unfold zeroE
      clear hF2 hD2
      go_wp2
      exact bodyPost_ret (v := .tuple #[]) (results_none rfl _ _ _) rfl ⟨rfl, HF2.out, by rw [HW.out]; exact HD2.out⟩
    | true =>
      rw [hi] at H
      have HW := Lib.hid (show (St.good us).want x.data.toList = .good us.tail by unfold St.want; rw [show (St.good us).hd = hd us from rfl, hi]; rfl)
      have HK := Lib.hid (isT_kind hi)
      clear h hi ef
      go_enter Tryz.func41, Tryz.ntmps41
      go_wp2_with fail
      refine (H.out).mono ?_
      rintro e w1 ⟨rfl, hb1⟩
      obtain ⟨k, hk1, hk2, hT⟩ := (HR.out.below hb1).tail HK.out
      have f1 := (HR.out.below hb1).cells.2.2.2 1
      have hl1 := (HR.out.below hb1).lt
      have HT := Lib.hid hT
      have HF1 := Lib.hid (Fr.of (rb := pb) hb1)
      clear hb1 hT
      go_wp2
      go_end0
      exact ⟨rfl, HF1.out.setCell (p := ⟨pb, 1, none⟩) (.inr rfl) _, by rw [HW.out]; exact HT.out⟩
end
end Go.Proofs.YtjhicgllofjpoaaGreatDoor
