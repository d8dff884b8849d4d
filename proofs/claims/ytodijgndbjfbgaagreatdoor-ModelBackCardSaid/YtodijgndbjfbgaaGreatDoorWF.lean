/-
  Read and Parse, walked.
-/
import Derived.Test.YtodijgndbjfbgaaGreatDoorWE
import Derived.Test.YtodijgndbjfbgaaGreatDoorQQ
namespace Go.Proofs.YtodijgndbjfbgaaGreatDoor
open Go.RowKit

/-- A tokens' reader in memory, at the tokens that are left. -/
structure TR (w : World) (rb : Nat) (us : List Tok) : Prop where
  rd : ∃ ts k, us = ts.drop k ∧ RD w rb ts k
  fine : Fine us
  glob : GlobS w
  hi : 0 < rb ∧ 3 < rb
theorem XR.tr {w : World} {xb rb lv : Nat} {us : List Tok} (h : XR w xb rb us lv) : TR w rb us := ⟨h.rd, h.fine, h.glob, h.hi.1, h.hi.2.1⟩
theorem TR.below {w w' : World} {rb : Nat} {us : List Tok} (h : TR w rb us) (hb : Below w.heap.size w w') : TR w' rb us := by
  refine ⟨?_, h.fine, h.glob.below hb, h.hi⟩
  obtain ⟨ts, k, h1, h2⟩ := h.rd
  exact ⟨ts, k, h1, h2.below hb⟩
theorem TR.ltr {w : World} {rb : Nat} {us : List Tok} (h : TR w rb us) : rb < w.heap.size := by
  obtain ⟨ts, k, _, h1⟩ := h.rd
  exact h1.lt
/-- A reader of expressions at it. -/
theorem TR.xr {w : World} {rb : Nat} {us : List Tok} (h : TR w rb us) {lv : Nat} (hl : lv ≤ 64) {xb : Nat} (hb : w.heap[xb]? = some (.cells #[.pointer (some ⟨rb, 0, none⟩), .int .i64 (lv : Int)] 246 (0, 0))) (hx : rb < xb) : XR w xb rb us lv :=
  ⟨h.rd, h.fine, hb, h.glob, hl, by have := h.hi; omega⟩
theorem TR.get {w : World} {rb : Nat} {us : List Tok} (h : TR w rb us) : ∃ ts k, us = ts.drop k ∧ RD w rb ts k ∧ ts[k]? = some (hd us) := by
  obtain ⟨ts, k, h1, h2⟩ := h.rd
  have hk : k < ts.length := by obtain ⟨_, _, _, _, h3, _⟩ := h2; exact h3
  exact ⟨ts, k, h1, h2, by rw [h1, List.drop_eq_getElem_cons hk, List.getElem?_eq_getElem hk]; rfl⟩
theorem TR.peek {w : World} {rb : Nat} {us : List Tok} (h : TR w rb us) : Calls Tryz.prog 45 #[.pointer (some ⟨rb, 0, none⟩)] w fun e w' => e = .returned (.agg #[.int .i64 (hd us).kind, .string ⟨(hd us).text.toArray⟩, .int .i64 (hd us).pos]) ∧ Below w.heap.size w w' := by
  obtain ⟨ts, k, h1, h2, h3⟩ := h.get
  exact peek_at h2 h3
theorem TR.is_ {w : World} {rb : Nat} {us : List Tok} (h : TR w rb us) (x : ByteArray) : Calls Tryz.prog 77 #[.pointer (some ⟨rb, 0, none⟩), .string x] w fun e w' => e = .returned (.bool (isT (hd us) x.data.toList)) ∧ Below w.heap.size w w' := by
  obtain ⟨ts, k, h1, h2, h3⟩ := h.get
  exact is_any x (peeks_at h2 h3)

def PT (rb : Nat) (res : PR) (w : World) (e : Ending) (w' : World) : Prop :=
  match res with
  | .ok x r => ∃ o nm n A l cap p, e = .returned (.tuple #[.agg #[.string o, .string nm, .int .i64 n, .slice A l cap, .int .i64 p], .nilIface]) ∧ HC w' 57 w.heap.size w'.heap.size x (exC o nm n A l cap p) ∧ TR w' rb r ∧ Fr w.heap.size rb w w'
  | .er c q => ∃ b, e = .returned (.tuple #[.agg #[.string ⟨#[]⟩, .string ⟨#[]⟩, .int .i64 0, .slice none 0 0, .int .i64 0], .iface 101 (.pointer (some ⟨b, 0, none⟩))]) ∧ w.heap.size ≤ b ∧ AtE w' b q c ∧ Fr w.heap.size rb w w'
theorem read_bad (r : Option Addr) (n : Int) (w : World) (hn : n < 1 ∨ 64 < n) : Calls Tryz.prog 145 #[.pointer r, .int .i64 n] w fun e w' => e = .returned (.tuple #[.agg #[.string ⟨#[]⟩, .string ⟨#[]⟩, .int .i64 0, .slice none 0 0, .int .i64 0], .iface 61 (.int .i64 1)]) ∧ Below w.heap.size w w' := by
  have H := Lib.hid (fun W : World => isdepth_any n W)
  have g : (decide (1 ≤ n) && decide (n ≤ 64)) = false := by simp; omega
  rw [g] at H
  clear hn g
  go_enter Tryz.func145, Tryz.ntmps145
  go_wp2_with fail
  with_reducible refine (H.out _).mono ?_
  rintro e w' ⟨rfl, rfl⟩
  go_wp2
  exact bodyPost_ret (v := .tuple #[.agg #[.string ⟨#[]⟩, .string ⟨#[]⟩, .int .i64 0, .slice none 0 0, .int .i64 0], .iface 61 (.int .i64 1)]) (by simp [results, Tryz.results145, go_sem]) rfl ⟨rfl, (Below.refl _ _).alloc (Nat.le_refl _) _⟩
theorem read_nil (n : Int) (w : World) (hn : 1 ≤ n ∧ n ≤ 64) : Calls Tryz.prog 145 #[.pointer none, .int .i64 n] w fun e w' => e = .returned (.tuple #[.agg #[.string ⟨#[]⟩, .string ⟨#[]⟩, .int .i64 0, .slice none 0 0, .int .i64 0], .iface 61 (.int .i64 3)]) ∧ Below w.heap.size w w' := by
  have H := Lib.hid (fun W : World => isdepth_any n W)
  have g : (decide (1 ≤ n) && decide (n ≤ 64)) = true := by simp; omega
  rw [g] at H
  clear hn g
  go_enter Tryz.func145, Tryz.ntmps145
  go_wp2_with fail
  with_reducible refine (H.out _).mono ?_
  rintro e w' ⟨rfl, rfl⟩
  go_wp2
  exact bodyPost_ret (v := .tuple #[.agg #[.string ⟨#[]⟩, .string ⟨#[]⟩, .int .i64 0, .slice none 0 0, .int .i64 0], .iface 61 (.int .i64 3)]) (by simp [results, Tryz.results145, go_sem]) rfl ⟨rfl, (Below.refl _ _).alloc (Nat.le_refl _) _⟩
set_option maxHeartbeats 1000000 in
theorem read_any {rb D : Nat} {us : List Tok} (w : World) (h : TR w rb us) (h1 : 1 ≤ D) (h64 : D ≤ 64) : Calls Tryz.prog 145 #[.pointer (some ⟨rb, 0, none⟩), .int .i64 (D : Int)] w (PT rb ((dp D).c us) w) := by
  have H := Lib.hid (fun W : World => isdepth_any (D : Int) W)
  have g : (decide ((1 : Int) ≤ (D : Int)) && decide ((D : Int) ≤ 64)) = true := by simp; omega
  rw [g] at H
  have hr := h.ltr
  have HT := Lib.hid h
  clear h g h1
  go_enter Tryz.func145, Tryz.ntmps145
  go_wp2_with fail
  with_reducible refine (H.out _).mono ?_
  rintro e w' ⟨rfl, rfl⟩
  go_wp2_with fail
  refine calls_gen (P := fun W => XR W (w.heap.size + 1) rb us D ∧ Box W w.heap.size (.string ⟨#[]⟩) (.string ⟨#[]⟩) (.int .i64 0) (.slice none 0 0) (.int .i64 0) ∧ Fr w.heap.size rb w W) ⟨?_, (Box.new _ _ _ _ _ _).alloc _, ((Fr.refl _ _ _).alloc (Nat.le_refl _) _).alloc (by simp) _⟩ ?_
  · exact (HT.out.below (((Below.refl _ _).alloc (Nat.le_refl _) _).alloc (by simp) _)).xr h64 (heap_new_at (by simp) _) (by omega)
  rintro W ⟨hX, hB, hF⟩
  refine ((dcs_all D).c _ _ W us hX).mono ?_
  intro e w1 hp
  clear hX
  have hs := hB.lt
  cases hres : (dp D).c us with
  | er c q =>
    rw [hres] at hp
    obtain ⟨b, rfl, hbb, hA, hF1⟩ := hp
    have hB1 := hB.fr hF1 (by omega)
    obtain ⟨b0, b1, b2, b3, b4⟩ := hB1.cells
    obtain ⟨z0, z1, z2, z3, z4⟩ := hB1.frozen
    have hs1 := hB1.lt
    have HB1 := Lib.hid hB1
    have HA := Lib.hid hA
    have HF1 := Lib.hid (hF.on hF.size hF1)
    have HR := Lib.hid hres
    clear hB1 hA hF hF1 hB hres
    go_wp2
    obtain ⟨d0, d1, d2, d3, d4⟩ := (HB1.out.set5 (.string ⟨#[]⟩) (.string ⟨#[]⟩) (.int .i64 0) (.slice none 0 0) (.int .i64 0)).cells
    rw [HR.out]
    refine bodyPost_ret (v := .tuple #[.agg #[.string ⟨#[]⟩, .string ⟨#[]⟩, .int .i64 0, .slice none 0 0, .int .i64 0], .iface 101 (.pointer (some ⟨b, 0, none⟩))]) (by simp [results, Tryz.results145, go_sem, d0, d1, d2, d3, d4]) rfl ⟨b, rfl, by omega, ?_, ?_⟩
    · exact HA.out.far5 (by omega) _ _ _ _ _
    · exact HF1.out.set5 (Nat.le_refl _) _ _ _ _ _
  | ok x r =>
    rw [hres] at hp
    obtain ⟨o, nm, n, A, ll, cap, p, rfl, hC, hX1, hF1⟩ := hp
    have hB1 := hB.fr hF1 (by omega)
    obtain ⟨b0, b1, b2, b3, b4⟩ := hB1.cells
    obtain ⟨z0, z1, z2, z3, z4⟩ := hB1.frozen
    have hs1 := hB1.lt
    have HB1 := Lib.hid hB1
    have HC1 := Lib.hid hC
    have HX1 := Lib.hid hX1
    have HF1 := Lib.hid (hF.on hF.size hF1)
    have HR := Lib.hid hres
    clear hB1 hC hX1 hF hF1 hB hres
    go_wp2
    obtain ⟨d0, d1, d2, d3, d4⟩ := (HB1.out.set5 (.string o) (.string nm) (.int .i64 n) (.slice A ll cap) (.int .i64 p)).cells
    rw [HR.out]
    refine bodyPost_ret (v := .tuple #[.agg #[.string o, .string nm, .int .i64 n, .slice A ll cap, .int .i64 p], .nilIface]) (by simp [results, Tryz.results145, go_sem, d0, d1, d2, d3, d4]) rfl ⟨o, nm, n, A, ll, cap, p, rfl, ?_, ?_, ?_⟩
    · exact (HC1.out.far5 (.inl (by omega)) _ _ _ _ _).mono (by omega) (by simp)
    · exact (HX1.out.set5 HB1.out (by omega) _ _ _ _ _).tr
    · exact HF1.out.set5 (Nat.le_refl _) _ _ _ _ _

theorem new_erX {s : ByteArray} {x p : Nat} (w : World) (hG : GlobS w) (hs : s.size ≤ 65536) (h : toks s.data.toList = .error (x, p)) :
    Calls Tryz.prog 15 #[.string s] w fun e w' => ∃ b, e = .returned (.tuple #[.pointer none, .iface 101 (.pointer (some ⟨b, 0, none⟩))]) ∧ w.heap.size ≤ b ∧ x ≠ 0 ∧ AtE w' b p x ∧ Below w.heap.size w w' := by
  have H := Lib.hid (tokens_er w hG hs h)
  clear hG h
  go_enter Tryz.func15, Tryz.ntmps15
  go_wp2_with fail
  with_reducible refine (H.out).mono ?_
  rintro e w1 ⟨b, rfl, hbb, hx, hA, hb⟩
  go_wp2
  go_ret2
  exact ⟨b, rfl, hbb, hx, hA, hb⟩
theorem new_tr {s : ByteArray} {ts : List Tok} (w : World) (hG : GlobS w) (hs : s.size ≤ 65536) (h : toks s.data.toList = .ok ts) :
    Calls Tryz.prog 15 #[.string s] w fun e w' => ∃ rb, e = .returned (.tuple #[.pointer (some ⟨rb, 0, none⟩), .nilIface]) ∧ w.heap.size ≤ rb ∧ TR w' rb ts ∧ Below w.heap.size w w' := by
  refine (new_ok w hG hs h).mono ?_
  rintro e w1 ⟨rb, rfl, hrb, hR, hb⟩
  refine ⟨rb, rfl, hrb, ⟨⟨ts, 0, rfl, hR⟩, fine_toks (by simpa using hs) h, hG.below hb, ?_⟩, hb⟩
  have h0 := World.block_lt_of_cell? w _ hG.glob.err
  obtain ⟨te, pe, he⟩ := hG.rng
  have h1 := World.block_lt_of_cell? w _ he
  exact ⟨by have : 0 < w.heap.size := h0; omega, by have : 3 < w.heap.size := h1; omega⟩
def PQ (res : PR) (w : World) (e : Ending) (w' : World) : Prop :=
  match res with
  | .ok x _ => ∃ o nm n A l cap p, e = .returned (.tuple #[.agg #[.string o, .string nm, .int .i64 n, .slice A l cap, .int .i64 p], .nilIface]) ∧ HC w' 57 w.heap.size w'.heap.size x (exC o nm n A l cap p) ∧ Below w.heap.size w w'
  | .er c q => ∃ b, e = .returned (.tuple #[.agg #[.string ⟨#[]⟩, .string ⟨#[]⟩, .int .i64 0, .slice none 0 0, .int .i64 0], .iface 101 (.pointer (some ⟨b, 0, none⟩))]) ∧ w.heap.size ≤ b ∧ AtE w' b q c ∧ Below w.heap.size w w'
end Go.Proofs.YtodijgndbjfbgaaGreatDoor
