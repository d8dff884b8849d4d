/-
  ModelJoins, walked.
-/
import Derived.Test.YtejpgdkmflihaaaGreatDoorGZ
namespace Go.Proofs.YtejpgdkmflihaaaGreatDoor
open Go.RowKit Go.Sort

/-- What Parse tells, whatever it is. -/
def MTot (w : World) (e : Ending) (w' : World) : Prop := ∃ A1 n1 c1 A2 n2 c2 A3 n3 c3 A4 n4 c4 g, e = .returned (.tuple #[.agg #[.slice A1 n1 c1, .slice A2 n2 c2, .slice A3 n3 c3, .slice A4 n4 c4], g]) ∧ (g = .nilIface ∨ ∃ t v, g = .iface t v) ∧ Below w.heap.size w w'
theorem good_len (l : List UInt8) : ∀ (ts : List Tok) (i : Nat), Good l i ts → ts.length + i ≤ l.length + 1
  | [], _, h => h.elim
  | [t], i, h => by
    obtain ⟨_, _, h1, h2⟩ := h
    simp only [List.length_cons, List.length_nil]
    omega
  | t :: u :: us, i, h => by
    obtain ⟨h1, h2, ⟨n, hm, _, hg⟩, _⟩ := h
    have h3 := good_len l (u :: us) _ hg
    have h4 := (meas_kinds (by intro h0; have := congrArg List.length h0; simp at this; omega) hm).2.1
    simp only [List.length_cons] at h3 ⊢
    omega
theorem mdlF_cnt (D : Nat) : ∀ (f : Nat) (m : MdlO) (st : St), (mdlF D f m st).1.cnt + (mdlF D f m st).2.len ≤ m.cnt + st.len
  | 0, m, st => by simp [mdlF]
  | f + 1, m, st => by
    simp only [mdlF]
    split
    · exact Nat.le_refl _
    · have h1 := items_cnt D m st
      have h2 := mdlF_cnt D f (st.items D m).1 (st.items D m).2
      omega
theorem parse_cnt {D : Nat} {l : List UInt8} {m : MdlO} (h : parseM D l = .ok m) : m.cnt ≤ l.length := by
  obtain ⟨t, us, r, h1, _, h3⟩ := parse_mdl h
  have h4 := good_len l _ 0 (good_toks h1)
  have h5 := mdlF_cnt D (St.good us).len mdl0 (St.good us)
  rw [show mdlF D (St.good us).len mdl0 (St.good us) = (m, .good r) from h3] at h5
  have h6 : mdl0.cnt = 0 := rfl
  have h7 : (St.good us).len = us.length := rfl
  simp only [List.length_cons] at h4
  simp only at h5
  omega
theorem mparse_tot {s : ByteArray} {D : Nat} (w : World) (hG : GlobS w) (hs : s.size ≤ 65536) (h1 : 1 ≤ D) (h64 : D ≤ 64) : Calls Tryz.prog 25 #[.string s, .int .i64 (D : Int)] w (MTot w) := by
  refine (mparse_any w hG hs h1 h64).mono ?_
  intro e w' h
  cases hp : parseM D s.data.toList with
  | ok m =>
    rw [hp] at h
    obtain ⟨v, rfl, _, hb⟩ := h
    exact ⟨_, _, _, _, _, _, _, _, _, _, _, _, _, rfl, .inl rfl, hb⟩
  | er c q =>
    rw [hp] at h
    obtain ⟨eb, rfl, _, hb⟩ := h
    exact ⟨_, _, _, _, _, _, _, _, _, _, _, _, _, rfl, .inr ⟨_, _, rfl⟩, hb⟩
def erAt (n p : Nat) : MP → Bool
  | .er c q => c == n && q == p
  | _ => false
theorem erAt_eq {n p : Nat} {r : MP} (h : erAt n p r = true) : r = .er n p := by
  match r, h with
  | .er c q, h =>
    have : c = n ∧ q = p := by simpa [erAt] using h
    rw [this.1, this.2]
/-- A word that can't be a name. -/
structure Wrd (X : ByteArray) : Prop where
  len : X.size ≤ 9
  c : parseM 9 ([109, 100, 112, 32, 99, 111, 110, 115, 116, 32] ++ X.data.toList ++ [32, 61, 32, 49, 59]) = .er 20 10
  m : parseM 9 ([109, 100, 112, 32, 109, 111, 100, 117, 108, 101, 32] ++ X.data.toList ++ [32, 101, 110, 100, 109, 111, 100, 117, 108, 101]) = .er 20 11
theorem wrd_at : ∀ i : Nat, i < 10 → ∃ X : ByteArray, ([.string ⟨#[109, 100, 112]⟩, .string ⟨#[99, 111, 110, 115, 116]⟩, .string ⟨#[102, 111, 114, 109, 117, 108, 97]⟩, .string ⟨#[108, 97, 98, 101, 108]⟩, .string ⟨#[109, 111, 100, 117, 108, 101]⟩, .string ⟨#[101, 110, 100, 109, 111, 100, 117, 108, 101]⟩, .string ⟨#[98, 111, 111, 108]⟩, .string ⟨#[105, 110, 105, 116]⟩, .string ⟨#[116, 114, 117, 101]⟩, .string ⟨#[102, 97, 108, 115, 101]⟩] : List Value)[i]? = some (.string X) ∧ Wrd X
  | 0, _ => ⟨⟨#[109, 100, 112]⟩, rfl, by decide, erAt_eq (by decide +kernel), erAt_eq (by decide +kernel)⟩
  | 1, _ => ⟨⟨#[99, 111, 110, 115, 116]⟩, rfl, by decide, erAt_eq (by decide +kernel), erAt_eq (by decide +kernel)⟩
  | 2, _ => ⟨⟨#[102, 111, 114, 109, 117, 108, 97]⟩, rfl, by decide, erAt_eq (by decide +kernel), erAt_eq (by decide +kernel)⟩
  | 3, _ => ⟨⟨#[108, 97, 98, 101, 108]⟩, rfl, by decide, erAt_eq (by decide +kernel), erAt_eq (by decide +kernel)⟩
  | 4, _ => ⟨⟨#[109, 111, 100, 117, 108, 101]⟩, rfl, by decide, erAt_eq (by decide +kernel), erAt_eq (by decide +kernel)⟩
  | 5, _ => ⟨⟨#[101, 110, 100, 109, 111, 100, 117, 108, 101]⟩, rfl, by decide, erAt_eq (by decide +kernel), erAt_eq (by decide +kernel)⟩
  | 6, _ => ⟨⟨#[98, 111, 111, 108]⟩, rfl, by decide, erAt_eq (by decide +kernel), erAt_eq (by decide +kernel)⟩
  | 7, _ => ⟨⟨#[105, 110, 105, 116]⟩, rfl, by decide, erAt_eq (by decide +kernel), erAt_eq (by decide +kernel)⟩
  | 8, _ => ⟨⟨#[116, 114, 117, 101]⟩, rfl, by decide, erAt_eq (by decide +kernel), erAt_eq (by decide +kernel)⟩
  | 9, _ => ⟨⟨#[102, 97, 108, 115, 101]⟩, rfl, by decide, erAt_eq (by decide +kernel), erAt_eq (by decide +kernel)⟩
  | n + 10, h => by omega
set_option maxHeartbeats 4000000 in
set_option maxRecDepth 100000 in
theorem mjoins_long (s t : ByteArray) (k : Int) (w : World) (hG : GlobT w) (hs : s.size ≤ 140737488355328) (ht : t.size ≤ 140737488355328) (h : 2000 < s.size + t.size) : Calls Tryz.prog 9 #[.string s, .string t, .int .u8 k] w (LawF w) := by
  have H0 := Lib.hid (malive_yes w hG)
  have g1 : decide (2000 < (s.size : Int) + (t.size : Int)) = true := by simp; omega
  clear h hG
  go_enter Tryz.func9, Tryz.ntmps9
  go_wp2_with fail
  with_reducible refine (H0.out).mono ?_
  rintro e w1 ⟨rfl, hb1⟩
  go_wp2
  go_ret
  exact ⟨rfl, hb1⟩
set_option maxHeartbeats 4000000 in
set_option maxRecDepth 100000 in
theorem mjoins_go (s t : ByteArray) (k : Int) (w : World) (hG : GlobT w) (hk0 : 0 ≤ k) (hk1 : k ≤ 255) (h : s.size + t.size ≤ 2000) : Calls Tryz.prog 9 #[.string s, .string t, .int .u8 k] w (LawF w) := by
  have H0 := Lib.hid (malive_yes w hG)
  have g1 : decide (2000 < (s.size : Int) + (t.size : Int)) = false := by simp; omega
  obtain ⟨i, hi⟩ : ∃ i : Nat, k.tmod 10 = (i : Int) := ⟨(k % 10).toNat, by rw [Int.tmod_eq_emod_of_nonneg hk0]; omega⟩
  have hi10 : i < 10 := by rw [Int.tmod_eq_emod_of_nonneg hk0] at hi; omega
  obtain ⟨X, hX, hW⟩ := wrd_at i hi10
  have hXl := hW.len
  have hXL : ∀ hh : i < ([.string ⟨#[109, 100, 112]⟩, .string ⟨#[99, 111, 110, 115, 116]⟩, .string ⟨#[102, 111, 114, 109, 117, 108, 97]⟩, .string ⟨#[108, 97, 98, 101, 108]⟩, .string ⟨#[109, 111, 100, 117, 108, 101]⟩, .string ⟨#[101, 110, 100, 109, 111, 100, 117, 108, 101]⟩, .string ⟨#[98, 111, 111, 108]⟩, .string ⟨#[105, 110, 105, 116]⟩, .string ⟨#[116, 114, 117, 101]⟩, .string ⟨#[102, 97, 108, 115, 101]⟩] : List Value).length, ([.string ⟨#[109, 100, 112]⟩, .string ⟨#[99, 111, 110, 115, 116]⟩, .string ⟨#[102, 111, 114, 109, 117, 108, 97]⟩, .string ⟨#[108, 97, 98, 101, 108]⟩, .string ⟨#[109, 111, 100, 117, 108, 101]⟩, .string ⟨#[101, 110, 100, 109, 111, 100, 117, 108, 101]⟩, .string ⟨#[98, 111, 111, 108]⟩, .string ⟨#[105, 110, 105, 116]⟩, .string ⟨#[116, 114, 117, 101]⟩, .string ⟨#[102, 97, 108, 115, 101]⟩] : List Value)[i]'hh = .string X := fun hh => by
    rw [List.getElem?_eq_getElem hh] at hX
    injection hX
  have H1 := Lib.hid (fun (W : World) (hW' : GlobT W) => mparse_any (s := ⟨#[109, 100, 112, 32, 99, 111, 110, 115, 116, 32]⟩ ++ X ++ ⟨#[32, 61, 32, 49, 59]⟩) (D := 9) W hW'.s (by simp only [ByteArray.size_append]; show 10 + X.size + 5 ≤ _; omega) (by decide) (by decide))
  rw [show (⟨#[109, 100, 112, 32, 99, 111, 110, 115, 116, 32]⟩ ++ X ++ ⟨#[32, 61, 32, 49, 59]⟩ : ByteArray).data.toList = [109, 100, 112, 32, 99, 111, 110, 115, 116, 32] ++ X.data.toList ++ [32, 61, 32, 49, 59] by simp, hW.c] at H1
  have H2 := Lib.hid (fun (W : World) (hW' : GlobT W) => mparse_any (s := ⟨#[109, 100, 112, 32, 109, 111, 100, 117, 108, 101, 32]⟩ ++ X ++ ⟨#[32, 101, 110, 100, 109, 111, 100, 117, 108, 101]⟩) (D := 9) W hW'.s (by simp only [ByteArray.size_append]; show 11 + X.size + 10 ≤ _; omega) (by decide) (by decide))
  rw [show (⟨#[109, 100, 112, 32, 109, 111, 100, 117, 108, 101, 32]⟩ ++ X ++ ⟨#[32, 101, 110, 100, 109, 111, 100, 117, 108, 101]⟩ : ByteArray).data.toList = [109, 100, 112, 32, 109, 111, 100, 117, 108, 101, 32] ++ X.data.toList ++ [32, 101, 110, 100, 109, 111, 100, 117, 108, 101] by simp, hW.m] at H2
  have HPA := Lib.hid (fun (W : World) (hW' : GlobT W) => mparse_any (s := s) (D := 64) W hW'.s (by omega) (by decide) (by decide))
  have HPB := Lib.hid (fun (W : World) (hW' : GlobT W) => mparse_any (s := ⟨#[109, 100, 112, 10]⟩ ++ t) (D := 64) W hW'.s (by simp only [ByteArray.size_append]; show 4 + t.size ≤ _; omega) (by decide) (by decide))
  rw [show (⟨#[109, 100, 112, 10]⟩ ++ t : ByteArray).data.toList = 109 :: 100 :: 112 :: 10 :: t.data.toList by simp] at HPB
  have HBT := Lib.hid (fun (W : World) (hW' : GlobT W) => mparse_tot (s := ⟨#[109, 100, 112, 10]⟩ ++ t) (D := 64) W hW'.s (by simp only [ByteArray.size_append]; show 4 + t.size ≤ _; omega) (by decide) (by decide))
  have HCC := Lib.hid (fun (W : World) (hW' : GlobT W) => mparse_tot (s := s ++ ⟨#[10]⟩ ++ t) (D := 64) W hW'.s (by simp only [ByteArray.size_append]; show s.size + 1 + t.size ≤ _; omega) (by decide) (by decide))
  have HG := Lib.hid hG
  clear hG hW hX
  go_enter Tryz.func9, Tryz.ntmps9
  go_wp2_with fail
  with_reducible refine (H0.out).mono ?_
  rintro e w1 ⟨rfl, hb1⟩
  have HB1 := Lib.hid hb1
  clear hb1
  have j1 : ¬ 9223372036854775807 < 10 + X.size := by omega
  have j2 : ¬ 9223372036854775807 < 10 + X.size + 5 := by omega
  have j3 : ¬ 9223372036854775807 < 11 + X.size := by omega
  have j4 : ¬ 9223372036854775807 < 11 + X.size + 10 := by omega
  have j5 : ¬ 9223372036854775807 < 4 + t.size := by omega
  have j6 : ¬ 9223372036854775807 < s.size + 1 := by omega
  have j7 : ¬ 9223372036854775807 < s.size + 1 + t.size := by omega
  go_wp2_with fail
  refine calls_gen (P := fun W => Below w.heap.size w W) (HB1.out.alloc HB1.out.size _) ?_
  rintro W hB
  refine (H1.out W (HG.out.below hB)).mono ?_
  rintro e w2 ⟨eb1, rfl, hA1, hb2⟩
  have HA1 := Lib.hid hA1
  have HB2 := Lib.hid (hB.trans (hb2.mono hB.size))
  clear hA1 hb2 hB HB1
  go_wp2_with fail
  refine calls_gen (P := fun W => AtE W eb1 ((10 : Nat) : Int) ((20 : Nat) : Int) ∧ Below w.heap.size w W) ⟨HA1.out.alloc _, HB2.out.alloc HB2.out.size _⟩ ?_
  rintro W ⟨hA, hB⟩
  refine (H2.out W (HG.out.below hB)).mono ?_
  rintro e w3 ⟨eb2, rfl, hA2, hb3⟩
  have HA1' := Lib.hid (hA.below hb3)
  have HA2 := Lib.hid hA2
  have HB3 := Lib.hid (hB.trans (hb3.mono hB.size))
  clear hA hA2 hb3 hB HA1 HB2
  go_wp2_with fail
  refine calls_gen (P := fun W => AtE W eb1 ((10 : Nat) : Int) ((20 : Nat) : Int) ∧ AtE W eb2 ((11 : Nat) : Int) ((20 : Nat) : Int) ∧ Below w.heap.size w W) ⟨HA1'.out.alloc _, HA2.out.alloc _, HB3.out.alloc HB3.out.size _⟩ ?_
  rintro W ⟨hA, hA2, hB⟩
  refine (num_at eb1 _ _ W (HG.out.below hB).s.glob hA).mono ?_
  rintro e w4 ⟨rfl, hb4⟩
  have HA4 := Lib.hid (hA.below hb4)
  have HA5 := Lib.hid (hA2.below hb4)
  have HB4 := Lib.hid (hB.trans (hb4.mono hB.size))
  clear hA hA2 hb4 hB HA1' HA2 HB3
  go_wp2_with fail
  refine (pos_at eb1 _ _ w4 (HG.out.below HB4.out).s.glob HA4.out).mono ?_
  rintro e w5 ⟨rfl, hb5⟩
  have HA6 := Lib.hid (HA5.out.below hb5)
  have HB5 := Lib.hid (HB4.out.trans (hb5.mono HB4.out.size))
  clear hb5 HA4 HA5 HB4
  go_wp2_with fail
  refine (num_at eb2 _ _ w5 (HG.out.below HB5.out).s.glob HA6.out).mono ?_
  rintro e w6 ⟨rfl, hb6⟩
  have HA7 := Lib.hid (HA6.out.below hb6)
  have HB6 := Lib.hid (HB5.out.trans (hb6.mono HB5.out.size))
  clear hb6 HA6 HB5
  go_wp2_with fail
  refine (pos_at eb2 _ _ w6 (HG.out.below HB6.out).s.glob HA7.out).mono ?_
  rintro e w7 ⟨rfl, hb7⟩
  have HB7 := Lib.hid (HB6.out.trans (hb7.mono HB6.out.size))
  clear hb7 HA7 HB6
  go_wp2_with fail
  refine (HPA.out w7 (HG.out.below HB7.out)).mono ?_
  intro e w8 hqa
  cases hpa : parseM 64 s.data.toList with
  | er ca qa =>
    rw [hpa] at hqa
    obtain ⟨ea, rfl, _, hb8⟩ := hqa
    have HB8 := Lib.hid (HB7.out.trans (hb8.mono HB7.out.size))
    clear hb8 hpa HB7
    go_wp2_with fail
    refine calls_gen (P := fun W => Below w.heap.size w W) (HB8.out.alloc HB8.out.size _) ?_
    rintro W hB
    refine (HBT.out W (HG.out.below hB)).mono ?_
    rintro e w9 ⟨A1, n1, c1, A2, n2, c2, A3, n3, c3, A4, n4, c4, g, rfl, hg, hb9⟩
    have HBX := Lib.hid (hB.trans (hb9.mono hB.size))
    clear hB hb9
    go_wp2_with fail
    refine calls_gen (P := fun W => Below w.heap.size w W) (HBX.out.alloc HBX.out.size _) ?_
    rintro W hB
    refine (HCC.out W (HG.out.below hB)).mono ?_
    rintro e wc ⟨A1, n1, c1, A2, n2, c2, A3, n3, c3, A4, n4, c4, g, rfl, hg, hbc⟩
    have HBY := Lib.hid (hB.trans (hbc.mono hB.size))
    clear hB hbc
    go_wp2
    go_ret
    exact ⟨rfl, HBY.out.alloc HBY.out.size _⟩
  | ok ma =>
    rw [hpa] at hqa
    obtain ⟨va, rfl, _, hb8⟩ := hqa
    have HB8 := Lib.hid (HB7.out.trans (hb8.mono HB7.out.size))
    have HPAE := Lib.hid hpa
    clear hb8 hpa HB7
    dsimp only [MdV.v1, MdV.v2, MdV.v3, MdV.v4]
    go_wp2_with fail
    refine calls_gen (P := fun W => Bx W w8.heap.size 48 [.slice va.A1 ma.consts.length va.c1, .slice va.A2 ma.formulas.length va.c2, .slice va.A3 ma.labels.length va.c3, .slice va.A4 ma.mods.length va.c4] ∧ Below w.heap.size w W) ⟨Bx.new _ _ _, HB8.out.alloc HB8.out.size _⟩ ?_
    rintro W ⟨hBa, hB⟩
    refine (HPB.out W (HG.out.below hB)).mono ?_
    intro e w9 hqb
    have HBa := hBa
    cases hpb : parseM 64 (109 :: 100 :: 112 :: 10 :: t.data.toList) with
    | er cb qb =>
      rw [hpb] at hqb
      obtain ⟨eb, rfl, _, hb9⟩ := hqb
      have HBX := Lib.hid (hB.trans (hb9.mono hB.size))
      clear hB hb9 hpb hBa HBa
      go_wp2_with fail
      refine calls_gen (P := fun W => Below w.heap.size w W) (HBX.out.alloc HBX.out.size _) ?_
      rintro W hB
      refine (HCC.out W (HG.out.below hB)).mono ?_
      rintro e wc ⟨A1, n1, c1, A2, n2, c2, A3, n3, c3, A4, n4, c4, g, rfl, hg, hbc⟩
      have HBY := Lib.hid (hB.trans (hbc.mono hB.size))
      clear hB hbc
      go_wp2
      go_ret
      exact ⟨rfl, HBY.out.alloc HBY.out.size _⟩
    | ok mb =>
      rw [hpb] at hqb
      obtain ⟨vb, rfl, _, hb9⟩ := hqb
      obtain ⟨mc, hpc, hvec⟩ := join_texts (by simp; omega) (by simp; omega) HPAE.out hpb
      have HPC := Lib.hid (fun (W : World) (hW : GlobT W) => mparse_any (s := s ++ ⟨#[10]⟩ ++ t) (D := 64) W hW.s (by simp only [ByteArray.size_append]; show s.size + 1 + t.size ≤ _; omega) (by decide) (by decide))
      rw [show (s ++ ⟨#[10]⟩ ++ t : ByteArray).data.toList = s.data.toList ++ 10 :: t.data.toList by simp, hpc] at HPC
      have HV := Lib.hid hvec
      have HCA := Lib.hid (parse_cnt HPAE.out)
      have HCB := Lib.hid (parse_cnt hpb)
      have HBX := Lib.hid (hB.trans (hb9.mono hB.size))
      have HBa9 := Lib.hid (hBa.below hb9)
      clear hB hb9 hpb hpc hvec hBa HBa
      dsimp only [MdV.v1, MdV.v2, MdV.v3, MdV.v4]
      go_wp2_with fail
      refine calls_gen (P := fun W => Bx W w8.heap.size 48 [.slice va.A1 ma.consts.length va.c1, .slice va.A2 ma.formulas.length va.c2, .slice va.A3 ma.labels.length va.c3, .slice va.A4 ma.mods.length va.c4] ∧ Bx W w9.heap.size 48 [.slice vb.A1 mb.consts.length vb.c1, .slice vb.A2 mb.formulas.length vb.c2, .slice vb.A3 mb.labels.length vb.c3, .slice vb.A4 mb.mods.length vb.c4] ∧ Below w.heap.size w W) ⟨HBa9.out.alloc _, Bx.new _ _ _, HBX.out.alloc HBX.out.size _⟩ ?_
      rintro W2 ⟨hBa, hBb, hB⟩
      refine (HPC.out W2 (HG.out.below hB)).mono ?_
      rintro e wc ⟨vc, rfl, _, hbc⟩
      have hBa' := hBa.below hbc
      have hBb' := hBb.below hbc
      have HBY := Lib.hid (hB.trans (hbc.mono hB.size))
      have a0 := hBa'.cell 0
      have a1 := hBa'.cell 1
      have a2 := hBa'.cell 2
      have a3 := hBa'.cell 3
      have d0 := hBb'.cell 0
      have d1 := hBb'.cell 1
      have d2 := hBb'.cell 2
      have d3 := hBb'.cell 3
      simp only [List.getElem?_cons_zero, List.getElem?_cons_succ] at a0 a1 a2 a3 d0 d1 d2 d3
      have hl1 := hBa'.lt
      have hl2 := hBb'.lt
      have hv := HV.out
      simp only [MdlO.vec, addV, Prod.mk.injEq] at hv
      obtain ⟨v1, v2, v3, v4⟩ := hv
      have y1 : ((mc.consts.length : Int) == (ma.consts.length : Int) + (mb.consts.length : Int)) = true := by simp; omega
      have y2 : ((mc.formulas.length : Int) == (ma.formulas.length : Int) + (mb.formulas.length : Int)) = true := by simp; omega
      have y3 : ((mc.labels.length : Int) == (ma.labels.length : Int) + (mb.labels.length : Int)) = true := by simp; omega
      have y4 : ((mc.mods.length : Int) == (ma.mods.length : Int) + (mb.mods.length : Int)) = true := by simp; omega
      clear v1 v2 v3 v4 hBa hBb hB hbc hBa' hBb' HBa9 HBX
      have cma1 : ma.consts.length ≤ 65540 := by have := HCA.out; simp only [MdlO.cnt, Array.length_toList] at this; have e1 : s.data.size = s.size := rfl; have e2 : t.data.size = t.size := rfl; omega
      have cma2 : ma.formulas.length ≤ 65540 := by have := HCA.out; simp only [MdlO.cnt, Array.length_toList] at this; have e1 : s.data.size = s.size := rfl; have e2 : t.data.size = t.size := rfl; omega
      have cma3 : ma.labels.length ≤ 65540 := by have := HCA.out; simp only [MdlO.cnt, Array.length_toList] at this; have e1 : s.data.size = s.size := rfl; have e2 : t.data.size = t.size := rfl; omega
      have cma4 : ma.mods.length ≤ 65540 := by have := HCA.out; simp only [MdlO.cnt, Array.length_toList] at this; have e1 : s.data.size = s.size := rfl; have e2 : t.data.size = t.size := rfl; omega
      have cmb1 : mb.consts.length ≤ 65540 := by have := HCB.out; simp only [MdlO.cnt, List.length_cons, Array.length_toList] at this; have e1 : s.data.size = s.size := rfl; have e2 : t.data.size = t.size := rfl; omega
      have cmb2 : mb.formulas.length ≤ 65540 := by have := HCB.out; simp only [MdlO.cnt, List.length_cons, Array.length_toList] at this; have e1 : s.data.size = s.size := rfl; have e2 : t.data.size = t.size := rfl; omega
      have cmb3 : mb.labels.length ≤ 65540 := by have := HCB.out; simp only [MdlO.cnt, List.length_cons, Array.length_toList] at this; have e1 : s.data.size = s.size := rfl; have e2 : t.data.size = t.size := rfl; omega
      have cmb4 : mb.mods.length ≤ 65540 := by have := HCB.out; simp only [MdlO.cnt, List.length_cons, Array.length_toList] at this; have e1 : s.data.size = s.size := rfl; have e2 : t.data.size = t.size := rfl; omega
      dsimp only [MdV.v1, MdV.v2, MdV.v3, MdV.v4]
      generalize ma.consts.length = xma1 at a0 y1 cma1 ⊢
      generalize ma.formulas.length = xma2 at a1 y2 cma2 ⊢
      generalize ma.labels.length = xma3 at a2 y3 cma3 ⊢
      generalize ma.mods.length = xma4 at a3 y4 cma4 ⊢
      generalize mb.consts.length = xmb1 at d0 y1 cmb1 ⊢
      generalize mb.formulas.length = xmb2 at d1 y2 cmb2 ⊢
      generalize mb.labels.length = xmb3 at d2 y3 cmb3 ⊢
      generalize mb.mods.length = xmb4 at d3 y4 cmb4 ⊢
      generalize mc.consts.length = xc1 at y1 ⊢
      generalize mc.formulas.length = xc2 at y2 ⊢
      generalize mc.labels.length = xc3 at y3 ⊢
      generalize mc.mods.length = xc4 at y4 ⊢
      go_wp2
      go_ret
      exact ⟨rfl, HBY.out.alloc HBY.out.size _⟩
theorem mjoins_yes (s t : ByteArray) (k : Int) (w : World) (hG : GlobT w) (hb : 0 ≤ k ∧ k ≤ 255) (hs : s.size ≤ 140737488355328) (ht : t.size ≤ 140737488355328) : Calls Tryz.prog 9 #[.string s, .string t, .int .u8 k] w (LawF w) := by
  by_cases h : s.size + t.size ≤ 2000
  · exact mjoins_go s t k w hG hb.1 hb.2 h
  · exact mjoins_long s t k w hG hs ht (by omega)
end Go.Proofs.YtejpgdkmflihaaaGreatDoor
