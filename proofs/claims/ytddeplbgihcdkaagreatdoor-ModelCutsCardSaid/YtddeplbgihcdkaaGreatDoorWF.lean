/-
  Read and Parse, walked.
-/
import Derived.Test.YtddeplbgihcdkaaGreatDoorWE
import Derived.Test.YtddeplbgihcdkaaGreatDoorQQ
namespace Go.Proofs.YtddeplbgihcdkaaGreatDoor
open Go.RowKit

/-- A tokens' reader in memory, at the tokens that are left. -/
structure TR (w : World) (rb : Nat) (us : List Tok) : Prop where
  rd : ∃ ts k, us = ts.drop k ∧ RD w rb ts k
  fine : Fine us
  glob : GlobS w
  hi : 0 < rb ∧ 3 < rb
theorem XR.tr {w : World} {xb rb lv : Nat} {us : List Tok} (h : XR w xb rb us lv) : TR w rb us := ⟨h.rd, h.fine, h.glob, h.hi.1, h.hi.2.1⟩
theorem TR.below {w w' : World} {rb : Nat} {us : List Tok} (h : TR w rb us) (hb : Below w.heap.size w w') : TR w' rb us := by
  refine ⟨?_, h.fine, h.glob.below hb, h.hi⟩
  obtain ⟨ts, k, h1, h2⟩ := h.rd
  exact ⟨ts, k, h1, h2.below hb⟩
theorem TR.ltr {w : World} {rb : Nat} {us : List Tok} (h : TR w rb us) : rb < w.heap.size := by
  obtain ⟨ts, k, _, h1⟩ := h.rd
  exact h1.lt
/-- A reader of expressions at it. -/
theorem TR.xr {w : World} {rb : Nat} {us : List Tok} (h : TR w rb us) {lv : Nat} (hl : lv ≤ 64) {xb : Nat} (hb : w.heap[xb]? = some (.cells #[.pointer (some ⟨rb, 0, none⟩), .int .i64 (lv : Int)] 141 (0, 0))) (hx : rb < xb) : XR w xb rb us lv :=
  ⟨h.rd, h.fine, hb, h.glob, hl, by have := h.hi; omega⟩
theorem TR.get {w : World} {rb : Nat} {us : List Tok} (h : TR w rb us) : ∃ ts k, us = ts.drop k ∧ RD w rb ts k ∧ ts[k]? = some (hd us) := by
  obtain ⟨ts, k, h1, h2⟩ := h.rd
  have hk : k < ts.length := by obtain ⟨_, _, _, _, h3, _⟩ := h2; exact h3
  exact ⟨ts, k, h1, h2, by rw [h1, List.drop_eq_getElem_cons hk, List.getElem?_eq_getElem hk]; rfl⟩
theorem TR.peek {w : World} {rb : Nat} {us : List Tok} (h : TR w rb us) : Calls Tryz.prog 73 #[.pointer (some ⟨rb, 0, none⟩)] w fun e w' => e = .returned (.agg #[.int .i64 (hd us).kind, .string ⟨(hd us).text.toArray⟩, .int .i64 (hd us).pos]) ∧ Below w.heap.size w w' := by
  obtain ⟨ts, k, h1, h2, h3⟩ := h.get
  exact peek_at h2 h3
theorem TR.is_ {w : World} {rb : Nat} {us : List Tok} (h : TR w rb us) (x : ByteArray) : Calls Tryz.prog 169 #[.pointer (some ⟨rb, 0, none⟩), .string x] w fun e w' => e = .returned (.bool (isT (hd us) x.data.toList)) ∧ Below w.heap.size w w' := by
  obtain ⟨ts, k, h1, h2, h3⟩ := h.get
  exact is_any x (peeks_at h2 h3)

def PT (rb : Nat) (res : PR) (w : World) (e : Ending) (w' : World) : Prop :=
  match res with
  | .ok x r => ∃ o nm n A l cap p, e = .returned (.tuple #[.agg #[.string o, .string nm, .int .i64 n, .slice A l cap, .int .i64 p], .nilIface]) ∧ HC w' 62 w.heap.size w'.heap.size x (exC o nm n A l cap p) ∧ TR w' rb r ∧ Fr w.heap.size rb w w'
  | .er c q => ∃ b, e = .returned (.tuple #[.agg #[.string ⟨#[]⟩, .string ⟨#[]⟩, .int .i64 0, .slice none 0 0, .int .i64 0], .iface 116 (.pointer (some ⟨b, 0, none⟩))]) ∧ w.heap.size ≤ b ∧ AtE w' b q c ∧ Fr w.heap.size rb w w'
theorem read_bad (r : Option Addr) (n : Int) (w : World) (hn : n < 1 ∨ 64 < n) : Calls Tryz.prog 33 #[.pointer r, .int .i64 n] w fun e w' => e = .returned (.tuple #[.agg #[.string ⟨#[]⟩, .string ⟨#[]⟩, .int .i64 0, .slice none 0 0, .int .i64 0], .iface 113 (.int .i64 1)]) ∧ Below w.heap.size w w' := by
  have H := Lib.hid (fun W : World => isdepth_any n W)
  have g : (decide (1 ≤ n) && decide (n ≤ 64)) = false := by simp; omega
  rw [g] at H
  clear hn g
  go_enter Tryz.func33, Tryz.ntmps33
  go_wp2_with fail
  with_reducible refine (H.out _).mono ?_
  rintro e w' ⟨rfl, rfl⟩
  go_wp2
  exact bodyPost_ret (v := .tuple #[.agg #[.string ⟨#[]⟩, .string ⟨#[]⟩, .int .i64 0, .slice none 0 0, .int .i64 0], .iface 113 (.int .i64 1)]) (by simp [results, Tryz.results33, go_sem]) rfl ⟨rfl, (Below.refl _ _).alloc (Nat.le_refl _) _⟩
theorem read_nil (n : Int) (w : World) (hn : 1 ≤ n ∧ n ≤ 64) : Calls Tryz.prog 33 #[.pointer none, .int .i64 n] w fun e w' => e = .returned (.tuple #[.agg #[.string ⟨#[]⟩, .string ⟨#[]⟩, .int .i64 0, .slice none 0 0, .int .i64 0], .iface 113 (.int .i64 3)]) ∧ Below w.heap.size w w' := by
  have H := Lib.hid (fun W : World => isdepth_any n W)
  have g : (decide (1 ≤ n) && decide (n ≤ 64)) = true := by simp; omega
  rw [g] at H
  clear hn g
  go_enter Tryz.func33, Tryz.ntmps33
  go_wp2_with fail
  with_reducible refine (H.out _).mono ?_
  rintro e w' ⟨rfl, rfl⟩
  go_wp2
  exact bodyPost_ret (v := .tuple #[.agg #[.string ⟨#[]⟩, .string ⟨#[]⟩, .int .i64 0, .slice none 0 0, .int .i64 0], .iface 113 (.int .i64 3)]) (by simp [results, Tryz.results33, go_sem]) rfl ⟨rfl, (Below.refl _ _).alloc (Nat.le_refl _) _⟩
set_option maxHeartbeats 1000000 in
theorem read_any {rb D : Nat} {us : List Tok} (w : World) (h : TR w rb us) (h1 : 1 ≤ D) (h64 : D ≤ 64) : Calls Tryz.prog 33 #[.pointer (some ⟨rb, 0, none⟩), .int .i64 (D : Int)] w (PT rb ((dp D).c us) w) := by
  have H := Lib.hid (fun W : World => isdepth_any (D : Int) W)
  have g : (decide ((1 : Int) ≤ (D : Int)) && decide ((D : Int) ≤ 64)) = true := by simp; omega
  rw [g] at H
  have hr := h.ltr
  have HT := Lib.hid h
  clear h g h1
  go_enter Tryz.func33, Tryz.ntmps33
  go_wp2_with fail
  with_reducible refine (H.out _).mono ?_
  rintro e w' ⟨rfl, rfl⟩
  go_wp2_with fail
  refine calls_gen (P := fun W => XR W (w.heap.size + 1) rb us D ∧ Box W w.heap.size (.string ⟨#[]⟩) (.string ⟨#[]⟩) (.int .i64 0) (.slice none 0 0) (.int .i64 0) ∧ Fr w.heap.size rb w W) ⟨?_, (Box.new _ _ _ _ _ _).alloc _, ((Fr.refl _ _ _).alloc (Nat.le_refl _) _).alloc (by simp) _⟩ ?_
  · exact (HT.out.below (((Below.refl _ _).alloc (Nat.le_refl _) _).alloc (by simp) _)).xr h64 (heap_new_at (by simp) _) (by omega)
  rintro W ⟨hX, hB, hF⟩
  refine ((dcs_all D).c _ _ W us hX).mono ?_
  intro e w1 hp
  clear hX
  have hs := hB.lt
  cases hres : (dp D).c us with
  | er c q =>
    rw [hres] at hp
    obtain ⟨b, rfl, hbb, hA, hF1⟩ := hp
    have hB1 := hB.fr hF1 (by omega)
    obtain ⟨b0, b1, b2, b3, b4⟩ := hB1.cells
    obtain ⟨z0, z1, z2, z3, z4⟩ := hB1.frozen
    have hs1 := hB1.lt
    have HB1 := Lib.hid hB1
    have HA := Lib.hid hA
    have HF1 := Lib.hid (hF.on hF.size hF1)
    have HR := Lib.hid hres
    clear hB1 hA hF hF1 hB hres
    go_wp2
    obtain ⟨d0, d1, d2, d3, d4⟩ := (HB1.out.set5 (.string ⟨#[]⟩) (.string ⟨#[]⟩) (.int .i64 0) (.slice none 0 0) (.int .i64 0)).cells
    rw [HR.out]
    refine bodyPost_ret (v := .tuple #[.agg #[.string ⟨#[]⟩, .string ⟨#[]⟩, .int .i64 0, .slice none 0 0, .int .i64 0], .iface 116 (.pointer (some ⟨b, 0, none⟩))]) (by simp [results, Tryz.results33, go_sem, d0, d1, d2, d3, d4]) rfl ⟨b, rfl, by omega, ?_, ?_⟩
    · exact HA.out.far5 (by omega) _ _ _ _ _
    · exact HF1.out.set5 (Nat.le_refl _) _ _ _ _ _
  | ok x r =>
    rw [hres] at hp
    obtain ⟨o, nm, n, A, ll, cap, p, rfl, hC, hX1, hF1⟩ := hp
    have hB1 := hB.fr hF1 (by omega)
    obtain ⟨b0, b1, b2, b3, b4⟩ := hB1.cells
    obtain ⟨z0, z1, z2, z3, z4⟩ := hB1.frozen
    have hs1 := hB1.lt
    have HB1 := Lib.hid hB1
    have HC1 := Lib.hid hC
    have HX1 := Lib.hid hX1
    have HF1 := Lib.hid (hF.on hF.size hF1)
    have HR := Lib.hid hres
    clear hB1 hC hX1 hF hF1 hB hres
    go_wp2
    obtain ⟨d0, d1, d2, d3, d4⟩ := (HB1.out.set5 (.string o) (.string nm) (.int .i64 n) (.slice A ll cap) (.int .i64 p)).cells
    rw [HR.out]
    refine bodyPost_ret (v := .tuple #[.agg #[.string o, .string nm, .int .i64 n, .slice A ll cap, .int .i64 p], .nilIface]) (by simp [results, Tryz.results33, go_sem, d0, d1, d2, d3, d4]) rfl ⟨o, nm, n, A, ll, cap, p, rfl, ?_, ?_, ?_⟩
    · exact (HC1.out.far5 (.inl (by omega)) _ _ _ _ _).mono (by omega) (by simp)
    · exact (HX1.out.set5 HB1.out (by omega) _ _ _ _ _).tr
    · exact HF1.out.set5 (Nat.le_refl _) _ _ _ _ _

theorem new_erX {s : ByteArray} {x p : Nat} (w : World) (hG : GlobS w) (hs : s.size ≤ 65536) (h : toks s.data.toList = .error (x, p)) :
    Calls Tryz.prog 72 #[.string s] w fun e w' => ∃ b, e = .returned (.tuple #[.pointer none, .iface 116 (.pointer (some ⟨b, 0, none⟩))]) ∧ w.heap.size ≤ b ∧ x ≠ 0 ∧ AtE w' b p x ∧ Below w.heap.size w w' := by
  have H := Lib.hid (tokens_er w hG hs h)
  clear hG h
  go_enter Tryz.func72, Tryz.ntmps72
  go_wp2_with fail
  with_reducible refine (H.out).mono ?_
  rintro e w1 ⟨b, rfl, hbb, hx, hA, hb⟩
  go_wp2
  go_ret2
  exact ⟨b, rfl, hbb, hx, hA, hb⟩
theorem new_tr {s : ByteArray} {ts : List Tok} (w : World) (hG : GlobS w) (hs : s.size ≤ 65536) (h : toks s.data.toList = .ok ts) :
    Calls Tryz.prog 72 #[.string s] w fun e w' => ∃ rb, e = .returned (.tuple #[.pointer (some ⟨rb, 0, none⟩), .nilIface]) ∧ w.heap.size ≤ rb ∧ TR w' rb ts ∧ Below w.heap.size w w' := by
  refine (new_ok w hG hs h).mono ?_
  rintro e w1 ⟨rb, rfl, hrb, hR, hb⟩
  refine ⟨rb, rfl, hrb, ⟨⟨ts, 0, rfl, hR⟩, fine_toks (by simpa using hs) h, hG.below hb, ?_⟩, hb⟩
  have h0 := World.block_lt_of_cell? w _ hG.glob.err
  obtain ⟨te, pe, he⟩ := hG.rng
  have h1 := World.block_lt_of_cell? w _ he
  exact ⟨by have : 0 < w.heap.size := h0; omega, by have : 3 < w.heap.size := h1; omega⟩
def PQ (res : PR) (w : World) (e : Ending) (w' : World) : Prop :=
  match res with
  | .ok x _ => ∃ o nm n A l cap p, e = .returned (.tuple #[.agg #[.string o, .string nm, .int .i64 n, .slice A l cap, .int .i64 p], .nilIface]) ∧ HC w' 62 w.heap.size w'.heap.size x (exC o nm n A l cap p) ∧ Below w.heap.size w w'
  | .er c q => ∃ b, e = .returned (.tuple #[.agg #[.string ⟨#[]⟩, .string ⟨#[]⟩, .int .i64 0, .slice none 0 0, .int .i64 0], .iface 116 (.pointer (some ⟨b, 0, none⟩))]) ∧ w.heap.size ≤ b ∧ AtE w' b q c ∧ Below w.heap.size w w'
theorem parse_bad (s : ByteArray) (n : Int) (w : World) (hn : n < 1 ∨ 64 < n) : Calls Tryz.prog 34 #[.string s, .int .i64 n] w fun e w' => e = .returned (.tuple #[.agg #[.string ⟨#[]⟩, .string ⟨#[]⟩, .int .i64 0, .slice none 0 0, .int .i64 0], .iface 113 (.int .i64 1)]) ∧ Below w.heap.size w w' := by
  have H := Lib.hid (fun W : World => isdepth_any n W)
  have g : (decide (1 ≤ n) && decide (n ≤ 64)) = false := by simp; omega
  rw [g] at H
  clear hn g
  go_enter Tryz.func34, Tryz.ntmps34
  go_wp2_with fail
  with_reducible refine (H.out _).mono ?_
  rintro e w' ⟨rfl, rfl⟩
  go_wp2
  exact bodyPost_ret (v := .tuple #[.agg #[.string ⟨#[]⟩, .string ⟨#[]⟩, .int .i64 0, .slice none 0 0, .int .i64 0], .iface 113 (.int .i64 1)]) (by simp [results, Tryz.results34, go_sem]) rfl ⟨rfl, (Below.refl _ _).alloc (Nat.le_refl _) _⟩
set_option maxHeartbeats 2000000 in
theorem parse_any {s : ByteArray} {D : Nat} (w : World) (hG : GlobS w) (hs : s.size ≤ 65536) (h1 : 1 ≤ D) (h64 : D ≤ 64) : Calls Tryz.prog 34 #[.string s, .int .i64 (D : Int)] w (PQ (parseX D s.data.toList) w) := by
  have H := Lib.hid (fun W : World => isdepth_any (D : Int) W)
  have g : (decide ((1 : Int) ≤ (D : Int)) && decide ((D : Int) ≤ 64)) = true := by simp; omega
  rw [g] at H
  have HG := Lib.hid hG
  clear hG g
  go_enter Tryz.func34, Tryz.ntmps34
  go_wp2_with fail
  with_reducible refine (H.out _).mono ?_
  rintro e w' ⟨rfl, rfl⟩
  go_wp2_with fail
  refine calls_gen (P := fun W => Box W w.heap.size (.string ⟨#[]⟩) (.string ⟨#[]⟩) (.int .i64 0) (.slice none 0 0) (.int .i64 0) ∧ Below w.heap.size w W) ⟨Box.new _ _ _ _ _ _, (Below.refl _ _).alloc (Nat.le_refl _) _⟩ ?_
  rintro W ⟨hB, hF⟩
  have hs0 := hB.lt
  cases htk : toks s.data.toList with
  | error x =>
    obtain ⟨x, q⟩ := x
    refine (new_erX W (HG.out.below hF) hs htk).mono ?_
    rintro e w1 ⟨b, rfl, hbb, hx, hA, hb⟩
    have hB1 := hB.below hb
    obtain ⟨b0, b1, b2, b3, b4⟩ := hB1.cells
    obtain ⟨z0, z1, z2, z3, z4⟩ := hB1.frozen
    have hs1 := hB1.lt
    have HB1 := Lib.hid hB1
    have HA := Lib.hid hA
    have HF1 := Lib.hid (hF.trans (hb.mono hF.size))
    have HR := Lib.hid (parse_er (D := D) htk)
    clear hB1 hA hF hb hB htk
    go_wp2
    obtain ⟨d0, d1, d2, d3, d4⟩ := (HB1.out.set5 (.string ⟨#[]⟩) (.string ⟨#[]⟩) (.int .i64 0) (.slice none 0 0) (.int .i64 0)).cells
    rw [HR.out]
    refine bodyPost_ret (v := .tuple #[.agg #[.string ⟨#[]⟩, .string ⟨#[]⟩, .int .i64 0, .slice none 0 0, .int .i64 0], .iface 116 (.pointer (some ⟨b, 0, none⟩))]) (by simp [results, Tryz.results34, go_sem, d0, d1, d2, d3, d4]) rfl ⟨b, rfl, by omega, ?_, ?_⟩
    · exact HA.out.far5 (by omega) _ _ _ _ _
    · exact ((Fr.of (rb := w.heap.size) HF1.out).set5 (Nat.le_refl _) _ _ _ _ _).below (Nat.le_refl _)
  | ok ts =>
    refine (new_tr W (HG.out.below hF) hs htk).mono ?_
    rintro e w1 ⟨rb, rfl, hrb, hT, hb⟩
    have HB1 := Lib.hid (hB.below hb)
    have HT1 := Lib.hid hT
    have HF1 := Lib.hid (hF.trans (hb.mono hF.size))
    have HP := Lib.hid (parse_ok (D := D) htk)
    have hs1 := HB1.out.lt
    have hrb' : w.heap.size < rb := by omega
    clear hB hT hF hb htk hrb
    go_wp2_with fail
    refine (read_any w1 HT1.out h1 h64).mono ?_
    intro e w2 hp
    cases hres : (dp D).c ts with
    | er c q =>
      rw [hres] at hp
      obtain ⟨b, rfl, hbb, hA, hF2⟩ := hp
      have hB2 := HB1.out.fr hF2 (by omega)
      obtain ⟨b0, b1, b2, b3, b4⟩ := hB2.cells
      obtain ⟨z0, z1, z2, z3, z4⟩ := hB2.frozen
      have hs2 := hB2.lt
      have HB2 := Lib.hid hB2
      have HA := Lib.hid hA
      have HF2 := Lib.hid ((Fr.of (rb := rb) HF1.out).on HF1.out.size hF2)
      have HR := Lib.hid (show parseX D s.data.toList = .er c q by rw [HP.out, hres]; rfl)
      clear hB2 hA hF2 hres
      go_wp2
      obtain ⟨d0, d1, d2, d3, d4⟩ := ((HB2.out.set5 (.string ⟨#[]⟩) (.string ⟨#[]⟩) (.int .i64 0) (.slice none 0 0) (.int .i64 0)).alloc (.cells #[.string ⟨#[]⟩, .string ⟨#[]⟩, .int .i64 0, .slice none 0 0, .int .i64 0] 62)).cells
      rw [HR.out]
      refine bodyPost_ret (v := .tuple #[.agg #[.string ⟨#[]⟩, .string ⟨#[]⟩, .int .i64 0, .slice none 0 0, .int .i64 0], .iface 116 (.pointer (some ⟨b, 0, none⟩))]) (by simp [results, Tryz.results34, go_sem, d0, d1, d2, d3, d4]) rfl ⟨b, rfl, by omega, ?_, ?_⟩
      · exact (HA.out.far5 (by omega) _ _ _ _ _).alloc _
      · exact ((HF2.out.set5 (Nat.le_refl _) _ _ _ _ _).alloc (by simp; omega) _).below (by omega)
    | ok x r =>
      rw [hres] at hp
      obtain ⟨o, nm, n, A, ll, cap, p, rfl, hC, hT2, hF2⟩ := hp
      have HB2 := Lib.hid (HB1.out.fr hF2 (by omega))
      have HC2 := Lib.hid hC
      have HT2 := Lib.hid hT2
      have HF2 := Lib.hid ((Fr.of (rb := rb) HF1.out).on HF1.out.size hF2)
      have HR0 := Lib.hid (show parseX D s.data.toList = endX (.ok x r) by rw [HP.out, hres])
      have hs2 := HB2.out.lt
      clear hC hT2 hF2 hres
      go_wp2_with fail
      refine calls_gen (P := fun W2 => TR W2 rb r ∧ Box W2 w.heap.size (.string ⟨#[]⟩) (.string ⟨#[]⟩) (.int .i64 0) (.slice none 0 0) (.int .i64 0) ∧ Box W2 w2.heap.size (.string o) (.string nm) (.int .i64 n) (.slice A ll cap) (.int .i64 p) ∧ HC W2 62 w1.heap.size w2.heap.size x (exC o nm n A ll cap p) ∧ Fr w.heap.size rb w W2) ⟨HT2.out.below ((Below.refl _ _).alloc (Nat.le_refl _) _), HB2.out.alloc _, Box.new _ _ _ _ _ _, HC2.out.alloc _, HF2.out.alloc HF2.out.size _⟩ ?_
      rintro W2 ⟨hT3, hB3, hE3, hC3, hF3⟩
      refine (hT3.peek).mono ?_
      rintro e w3 ⟨rfl, hb3⟩
      have hB4 := hB3.below hb3
      have hE4 := hE3.below hb3
      have hs3 := hE4.lt
      have hs3' := hB4.lt
      obtain ⟨b0, b1, b2, b3, b4⟩ := hB4.cells
      obtain ⟨z0, z1, z2, z3, z4⟩ := hB4.frozen
      obtain ⟨e0, e1, e2, e3, e4⟩ := hE4.cells
      have HB4 := Lib.hid hB4
      have HC4 := Lib.hid (hC3.below hb3)
      have HF4 := Lib.hid (hF3.onB hF3.size hb3)
      clear hT3 hB3 hE3 hC3 hF3 hb3 hB4 hE4
      by_cases h0 : (hd r).kind = 0
      · have HR := Lib.hid (show parseX D s.data.toList = .ok x r by rw [HR0.out]; simp [endX, h0])
        have g1 : (((hd r).kind : Int) != 0) = false := by simp [h0]
        clear h0
        go_wp2
        obtain ⟨d0, d1, d2, d3, d4⟩ := ((HB4.out.set5 (.string o) (.string nm) (.int .i64 n) (.slice A ll cap) (.int .i64 p)).alloc (.cells #[.int .i64 (hd r).kind, .string ⟨(hd r).text.toArray⟩, .int .i64 (hd r).pos] 89)).cells
        rw [HR.out]
        refine bodyPost_ret (v := .tuple #[.agg #[.string o, .string nm, .int .i64 n, .slice A ll cap, .int .i64 p], .nilIface]) (by simp [results, Tryz.results34, go_sem, d0, d1, d2, d3, d4]) rfl ⟨o, nm, n, A, ll, cap, p, rfl, ?_, ?_⟩
        · exact ((HC4.out.far5 (.inl (by omega)) _ _ _ _ _).alloc _).mono (by omega) (by simp; omega)
        · exact ((HF4.out.set5 (Nat.le_refl _) _ _ _ _ _).alloc (by simp; omega) _).below (by omega)
      · have HR := Lib.hid (show parseX D s.data.toList = .er 20 (hd r).pos by rw [HR0.out]; simp [endX, h0])
        have g1 : (((hd r).kind : Int) != 0) = true := by rw [bne_iff_ne]; omega
        clear h0
        go_wp2
        go_region
        go_wp2
        obtain ⟨d0, d1, d2, d3, d4⟩ := (((HB4.out.set5 (.string ⟨#[]⟩) (.string ⟨#[]⟩) (.int .i64 0) (.slice none 0 0) (.int .i64 0)).alloc (.cells #[.int .i64 (hd r).kind, .string ⟨(hd r).text.toArray⟩, .int .i64 (hd r).pos] 89)).alloc (.cells #[.int .i64 (hd r).pos, .iface 113 (.int .i64 20)] 119)).cells
        rw [HR.out]
        refine bodyPost_ret (v := .tuple #[.agg #[.string ⟨#[]⟩, .string ⟨#[]⟩, .int .i64 0, .slice none 0 0, .int .i64 0], .iface 116 (.pointer (some ⟨w3.heap.size + 1, 0, none⟩))]) (by simp [results, Tryz.results34, go_sem, d0, d1, d2, d3, d4]) rfl ⟨w3.heap.size + 1, rfl, by omega, ?_, ?_⟩
        · exact (AtE.new (by simp) _ _).below (Below.refl _ _).drew
        · exact (((HF4.out.set5 (Nat.le_refl _) _ _ _ _ _).alloc (by simp; omega) _).alloc (by simp; omega) _).drew.below (by omega)
end Go.Proofs.YtddeplbgihcdkaaGreatDoor
