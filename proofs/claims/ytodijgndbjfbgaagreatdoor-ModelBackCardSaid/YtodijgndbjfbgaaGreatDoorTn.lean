/-
  ModelBlanks, walked.
-/
import Derived.Test.YtodijgndbjfbgaaGreatDoorT9
import Derived.Test.YtodijgndbjfbgaaGreatDoorGH
import Derived.Test.YtodijgndbjfbgaaGreatDoorMB
import Derived.Deep.RegionHeld3
namespace Go.Proofs.YtodijgndbjfbgaaGreatDoor
open Go.RowKit Go.Sort

theorem jl_len {l : List UInt8} : ∀ {ts : List Tok} {i : Nat}, Good l i ts → (jL ts).length + 7 * i ≤ 7 * l.length + 6
  | [], _, h => by simp [Good] at h
  | [t], i, h => by
    obtain ⟨h1, h2, h3, h4⟩ := h
    have e : full t = [] := by unfold full; rw [if_neg (by omega)]; exact h2
    simp [jL, e]
    omega
  | t :: v :: us, i, h => by
    obtain ⟨h1, h2, ⟨n, hm, ht, hg⟩, _⟩ := h
    obtain ⟨hf, hfl⟩ := good_full h2 hm ht
    have hk := meas_kinds (drop_ne h2) hm
    have ih := jl_len hg
    rw [show t :: v :: us = [t] ++ (v :: us) from rfl, show jL ([t] ++ (v :: us)) = jL [t] ++ jL (v :: us) by simp [jL], List.length_append]
    have e : (jL [t]).length = (full t).length + 6 := by simp [jL]
    omega
theorem jl_max {l : List UInt8} {ts : List Tok} (h : toks l = .ok ts) : (jL ts).length ≤ 7 * l.length + 6 := by
  have := jl_len (good_toks h)
  omega
theorem mk_listJ (x : ByteArray) (l : List UInt8) (h : x.data.toList = l) : x = ⟨l.toArray⟩ := by rw [← h]
def JRel (ts : List Tok) (n : Nat) (x i : Value) : Prop := ∃ k : Nat, k ≤ n ∧ x = .string ⟨(jL (ts.take k)).toArray⟩ ∧ i = .int .i64 (k : Int) ∧ (jL (ts.take k)).length ≤ k * 1006
def exBx : List UInt8 := [109, 100, 112, 32, 109, 111, 100, 117, 108, 101, 32, 109, 32, 91, 93, 32, 116, 114, 117, 101, 32, 45, 62, 32, 116, 114, 117, 101, 32, 43, 32, 50, 32, 58, 32, 116, 114, 117, 101, 59, 32, 101, 110, 100, 109, 111, 100, 117, 108, 101]
def exBy : List UInt8 := [109, 100, 112, 32, 109, 111, 100, 117, 108, 101, 32, 109, 32, 91, 93, 32, 116, 114, 117, 101, 32, 45, 62, 32, 49, 32, 58, 32, 116, 114, 117, 101, 32, 43, 32, 50, 32, 58, 32, 116, 114, 117, 101, 59, 32, 101, 110, 100, 109, 111, 100, 117, 108, 101]
def chkT : MP → MP → Bool
  | .ok m, .ok m' => tlM m == tlM m'
  | _, _ => false
theorem chk_ex3 : chkT (parseM 9 exBx) (parseM 9 exBy) = true := by decide +kernel
theorem chkT_ok {a b : MP} (h : chkT a b = true) : ∃ m m', a = .ok m ∧ b = .ok m' ∧ tlM m = tlM m' := by
  match a, b, h with
  | .ok m, .ok m', h => exact ⟨m, m', rfl, rfl, by simpa [chkT] using h⟩
/-- Two models in memory. -/
structure Mem2 (w W : World) (b3 b4 : Nat) (m3 m4 : MdlO) (v3 v4 : MdV) : Prop where
  x3 : Bx W b3 26 [v3.v1 m3, v3.v2 m3, v3.v3 m3, v3.v4 m3]
  x4 : Bx W b4 26 [v4.v1 m4, v4.v2 m4, v4.v3 m4, v4.v4 m4]
  r3 : ∃ lo, MdR W lo m3 v3
  r4 : ∃ lo, MdR W lo m4 v4
  g : GlobT W
  b : Below w.heap.size w W
section
variable {w W W' : World} {b3 b4 : Nat} {m3 m4 : MdlO} {v3 v4 : MdV}
theorem MdR.belowX {lo : Nat} {m : MdlO} {v : MdV} (h : MdR W lo m v) (hb : Below W.heap.size W W') : MdR W' lo m v := h.keep (Kt.below hb)
theorem Mem2.below (h : Mem2 w W b3 b4 m3 m4 v3 v4) (hb : Below W.heap.size W W') : Mem2 w W' b3 b4 m3 m4 v3 v4 :=
  ⟨h.x3.below hb, h.x4.below hb, let ⟨lo, h3⟩ := h.r3; ⟨lo, h3.belowX hb⟩, let ⟨lo, h3⟩ := h.r4; ⟨lo, h3.belowX hb⟩, h.g.below hb, h.b.trans (hb.mono h.b.size)⟩
theorem Mem2.drew (h : Mem2 w W b3 b4 m3 m4 v3 v4) : Mem2 w W.drew b3 b4 m3 m4 v3 v4 := h.below (Below.refl _ _).drew
def M2P (w : World) (b3 b4 : Nat) (m3 m4 : MdlO) (v3 v4 : MdV) (u : Value) (e : Ending) (w' : World) : Prop := e = .returned u ∧ Mem2 w w' b3 b4 m3 m4 v3 v4
theorem Mem2.p3 (h : Mem2 w W b3 b4 m3 m4 v3 v4) (hok : MdOk m3) {t : ByteArray} (ht : t.data.toList = tlM m3) : Calls Tryz.prog 13 #[.agg #[.slice v3.A1 m3.consts.length v3.c1, .slice v3.A2 m3.formulas.length v3.c2, .slice v3.A3 m3.labels.length v3.c3, .slice v3.A4 m3.mods.length v3.c4]] W (M2P w b3 b4 m3 m4 v3 v4 (.string t)) := by
  obtain ⟨lo, h3⟩ := h.r3
  exact (mprint_any hok W h3 h.g.t).mono fun e w' ⟨h1, h2⟩ => ⟨h1.trans (ret_strM ht).symm, h.below h2⟩
theorem Mem2.p4 (h : Mem2 w W b3 b4 m3 m4 v3 v4) (hok : MdOk m4) {t : ByteArray} (ht : t.data.toList = tlM m4) : Calls Tryz.prog 13 #[.agg #[.slice v4.A1 m4.consts.length v4.c1, .slice v4.A2 m4.formulas.length v4.c2, .slice v4.A3 m4.labels.length v4.c3, .slice v4.A4 m4.mods.length v4.c4]] W (M2P w b3 b4 m3 m4 v3 v4 (.string t)) := by
  obtain ⟨lo, h3⟩ := h.r4
  exact (mprint_any hok W h3 h.g.t).mono fun e w' ⟨h1, h2⟩ => ⟨h1.trans (ret_strM ht).symm, h.below h2⟩
theorem Mem2.nil (h : Mem2 w W b3 b4 m3 m4 v3 v4) : Calls Tryz.prog 9 #[.nilIface] W (M2P w b3 b4 m3 m4 v3 v4 (.int .i64 0)) := (num_nil W).mono fun e w' ⟨h1, h2⟩ => ⟨h1, by rw [h2]; exact h⟩
end
/-- Two errors in memory. -/
structure MemEr (w W : World) (b3 b4 q3 q4 c : Nat) : Prop where
  a3 : AtE W b3 (q3 : Int) (c : Int)
  a4 : AtE W b4 (q4 : Int) (c : Int)
  g : GlobT W
  b : Below w.heap.size w W
section
variable {w W W' : World} {b3 b4 q3 q4 c : Nat}
theorem MemEr.below (h : MemEr w W b3 b4 q3 q4 c) (hb : Below W.heap.size W W') : MemEr w W' b3 b4 q3 q4 c := ⟨h.a3.below hb, h.a4.below hb, h.g.below hb, h.b.trans (hb.mono h.b.size)⟩
theorem MemEr.drew (h : MemEr w W b3 b4 q3 q4 c) : MemEr w W.drew b3 b4 q3 q4 c := h.below (Below.refl _ _).drew
theorem MemEr.n3 (h : MemEr w W b3 b4 q3 q4 c) : Calls Tryz.prog 9 #[.iface 101 (.pointer (some ⟨b3, 0, none⟩))] W fun e w' => e = .returned (.int .i64 (c : Int)) ∧ MemEr w w' b3 b4 q3 q4 c := (num_at b3 _ _ W h.g.s.glob h.a3).mono fun _ _ ⟨h1, h2⟩ => ⟨h1, h.below h2⟩
theorem MemEr.n4 (h : MemEr w W b3 b4 q3 q4 c) : Calls Tryz.prog 9 #[.iface 101 (.pointer (some ⟨b4, 0, none⟩))] W fun e w' => e = .returned (.int .i64 (c : Int)) ∧ MemEr w w' b3 b4 q3 q4 c := (num_at b4 _ _ W h.g.s.glob h.a4).mono fun _ _ ⟨h1, h2⟩ => ⟨h1, h.below h2⟩
end
theorem mblanks_long (s : ByteArray) (w : World) (hG : GlobT w) (hs : s.size ≤ 140737488355328) (h : 1000 < s.size) : Calls Tryz.prog 5 #[.string s] w (LawF w) := by
  have H0 := Lib.hid (malive_yes w hG)
  have g1 : decide (1000 < (s.size : Int)) = true := by simp; omega
  have g1' : decide (1000 < s.size) = true := by simp; omega
  clear hG h
  go_enter Tryz.func5, Tryz.ntmps5
  go_wp2_with fail
  with_reducible refine (H0.out).mono ?_
  rintro e w1 ⟨rfl, hb1⟩
  go_wp2
  go_ret
  exact ⟨rfl, hb1⟩
theorem mblanks_er (s : ByteArray) (w : World) (hG : GlobT w) (h : s.size ≤ 1000) {x p : Nat} (ht : toks s.data.toList = .error (x, p)) : Calls Tryz.prog 5 #[.string s] w (LawF w) := by
  have H0 := Lib.hid (malive_yes w hG)
  have g1 : decide (1000 < (s.size : Int)) = false := by simp; omega
  have g1' : decide (1000 < s.size) = false := by simp; omega
  have HG := Lib.hid hG
  have H1 := Lib.hid (fun (W : World) (hW : GlobT W) => tokens_er W hW.s (by omega) ht)
  clear hG ht
  go_enter Tryz.func5, Tryz.ntmps5
  go_wp2_with fail
  with_reducible refine (H0.out).mono ?_
  rintro e w1 ⟨rfl, hb1⟩
  have HB1 := Lib.hid hb1
  clear hb1
  go_wp2_with fail
  refine (H1.out _ (HG.out.below HB1.out)).mono ?_
  rintro e w2 ⟨b, rfl, _, _, _, hb2⟩
  have HB2 := Lib.hid (HB1.out.trans (hb2.mono HB1.out.size))
  clear hb2
  go_wp2
  go_ret
  exact ⟨rfl, HB2.out⟩
set_option maxHeartbeats 8000000 in
set_option maxRecDepth 100000 in
theorem mblanks_ok (s : ByteArray) (w : World) (hG : GlobT w) (h : s.size ≤ 1000) {ts : List Tok} (ht : toks s.data.toList = .ok ts) : Calls Tryz.prog 5 #[.string s] w (LawF w) := by
  have H0 := Lib.hid (malive_yes w hG)
  have g1 : decide (1000 < (s.size : Int)) = false := by simp; omega
  have g1' : decide (1000 < s.size) = false := by simp; omega
  have HG := Lib.hid hG
  have H1 := Lib.hid (fun (W : World) (hW : GlobT W) => tokens_ok W hW.s (by omega) ht)
  obtain ⟨mx, my, hx, hy, hxy⟩ := chkT_ok chk_ex3
  have HX := Lib.hid hx
  have HY := Lib.hid hy
  have HXY := Lib.hid hxy
  obtain ⟨n, hn⟩ : ∃ n, n = ts.length := ⟨_, rfl⟩
  have HN := Lib.hid hn
  have HT := Lib.hid ht
  clear hG ht hn hx hy hxy
  go_enter Tryz.func5, Tryz.ntmps5
  go_wp2_with fail
  with_reducible refine (H0.out).mono ?_
  rintro e w1 ⟨rfl, hb1⟩
  have HB1 := Lib.hid hb1
  clear hb1
  go_wp2_with fail
  refine (H1.out _ (HG.out.below HB1.out)).mono ?_
  rintro e w2 ⟨g, cap, rfl, hn0, hn1, ho, hb2⟩
  have HO2 := Lib.hid ho
  rw [← HN.out] at hn0 hn1 ⊢
  have HB2 := Lib.hid (HB1.out.trans (hb2.mono HB1.out.size))
  have HG2 := Lib.hid (HG.out.below HB2.out)
  clear ho hb2
  go_wp2_with fail
  go_loop [5, 6, 7] (fun x i _ => JRel ts n x i) (fun _ i _ => n - (intOf i).toNat)
  case atStart => exact ⟨0, Nat.zero_le _, rfl, rfl, by simp [jL]⟩
  case round =>
    obtain ⟨k, hk, rfl, rfl, hwl⟩ := hrel
    by_cases hlt : k < n
    · have hkt : k < ts.length := by rw [← HN.out]; exact hlt
      have hget := List.getElem?_eq_getElem hkt
      obtain ⟨c0, c1, c2⟩ := tok_cells HO2.out hget
      have hd1 : decide (k < n) = true := by simp; omega
      have hsn : jL (ts.take (k + 1)) = jL (ts.take k) ++ (10 :: full ts[k] ++ [32, 47, 47, 32, 59]) := by
        rw [List.take_succ_eq_append_getElem hkt, jL_snoc]
      have HSN := Lib.hid hsn
      have hpl := (good_at (good_toks HT.out) k _ hget).2.1
      rw [size_list] at hpl
      have hfl : (full ts[k]).length ≤ 1000 := by omega
      have htl : ts[k].text.length ≤ 1000 := by
        have h1 : ts[k].text.length ≤ (full ts[k]).length := by
          unfold full
          split
          · simp; omega
          · exact Nat.le_refl _
        omega
      have HWL := Lib.hid (show (jL (ts.take (k + 1))).length ≤ (k + 1) * 1006 by rw [HSN.out]; simp only [List.length_append, List.length_cons, List.length_nil]; omega)
      clear hsn hget hpl
      obtain ⟨X, hX⟩ : ∃ X : ByteArray, X = ⟨(jL (ts.take k)).toArray⟩ := ⟨_, rfl⟩
      have HXL := Lib.hid (show X.data.toList = jL (ts.take k) by rw [hX])
      rw [← hX]
      have hXs : X.size ≤ k * 1006 := by rw [← size_list, HXL.out]; exact hwl
      by_cases hk3 : ts[k].kind = 3
      · have q3 : ((ts[k].kind : Int) == 3) = true := by rw [hk3]; rfl
        have q4 : decide (ts[k].kind = 3) = true := by rw [hk3]; rfl
        have HF := Lib.hid (show full ts[k] = 34 :: (ts[k].text ++ [34]) by unfold full; rw [if_pos hk3]; rfl)
        clear hk3
        generalize ts[k] = t at *
        have htbs : (⟨t.text.toArray⟩ : ByteArray).size ≤ 1000 := by rw [← size_list]; exact htl
        have hl5 : (⟨#[32, 47, 47, 32, 59]⟩ : ByteArray).size = 5 := rfl
        have n1 : ¬ 9223372036854775807 < X.size + 1 := by omega
        have n2 : ¬ 9223372036854775807 < X.size + 1 + 1 := by omega
        have n3 : ¬ 9223372036854775807 < X.size + 1 + 1 + (⟨t.text.toArray⟩ : ByteArray).size := by omega
        have n4 : ¬ 9223372036854775807 < X.size + 1 + 1 + (⟨t.text.toArray⟩ : ByteArray).size + 1 := by omega
        have n5 : ¬ 9223372036854775807 < X.size + 1 + 1 + (⟨t.text.toArray⟩ : ByteArray).size + 1 + 5 := by omega
        have o3 : ¬ 9223372036854775807 < X.size + 1 + 1 + t.text.length := by omega
        have o4 : ¬ 9223372036854775807 < X.size + 1 + 1 + t.text.length + 1 := by omega
        have o5 : ¬ 9223372036854775807 < X.size + 1 + 1 + t.text.length + 1 + 5 := by omega
        clear hX hwl hkt hfl
        have HWX := Lib.hid (show (X ++ ⟨#[10]⟩ ++ ⟨#[34]⟩ ++ ⟨t.text.toArray⟩ ++ ⟨#[34]⟩ ++ ⟨#[32, 47, 47, 32, 59]⟩ : ByteArray) = ⟨(jL (ts.take (k + 1))).toArray⟩ from mk_listJ _ _ (by rw [HSN.out, HF.out]; simp [HXL.out]))
        go_wp2
        go_round
        case rel => exact ⟨k + 1, by omega, by rw [HWX.out], by go_num, HWL.out⟩
        case measure => simp [intOf]; omega
      · have q3 : ((ts[k].kind : Int) == 3) = false := by rw [beq_eq_false_iff_ne]; omega
        have q4 : decide (ts[k].kind = 3) = false := by simpa using hk3
        have HF := Lib.hid (show full ts[k] = ts[k].text by unfold full; rw [if_neg hk3])
        clear hk3
        generalize ts[k] = t at *
        have htbs : (⟨t.text.toArray⟩ : ByteArray).size ≤ 1000 := by rw [← size_list]; exact htl
        have hl5 : (⟨#[32, 47, 47, 32, 59]⟩ : ByteArray).size = 5 := rfl
        have n1 : ¬ 9223372036854775807 < X.size + 1 := by omega
        have n3 : ¬ 9223372036854775807 < X.size + 1 + (⟨t.text.toArray⟩ : ByteArray).size := by omega
        have n5 : ¬ 9223372036854775807 < X.size + 1 + (⟨t.text.toArray⟩ : ByteArray).size + 5 := by omega
        have o3 : ¬ 9223372036854775807 < X.size + 1 + t.text.length := by omega
        have o5 : ¬ 9223372036854775807 < X.size + 1 + t.text.length + 5 := by omega
        clear hX hwl hkt hfl
        have HWX := Lib.hid (show (X ++ ⟨#[10]⟩ ++ ⟨#[]⟩ ++ ⟨t.text.toArray⟩ ++ ⟨#[]⟩ ++ ⟨#[32, 47, 47, 32, 59]⟩ : ByteArray) = ⟨(jL (ts.take (k + 1))).toArray⟩ from mk_listJ _ _ (by rw [HSN.out, HF.out]; simp [HXL.out]))
        go_wp2
        go_round
        case rel => exact ⟨k + 1, by omega, by rw [HWX.out], by go_num, HWL.out⟩
        case measure => simp [intOf]; omega
    · obtain rfl : k = n := by omega
      have hd1 : decide (k < k) = false := by simp
      have htk : ts.take k = ts := by rw [HN.out]; exact List.take_length
      rw [htk]
      have hbl := jl_max HT.out
      obtain ⟨X, hX⟩ : ∃ X : ByteArray, X = ⟨(jL ts).toArray⟩ := ⟨_, rfl⟩
      have hXL : X.data.toList = jL ts := by rw [hX]
      rw [← hX]
      have hXs : X.size ≤ 65536 := by rw [← size_list, hXL]; rw [size_list] at hbl; omega
      have hR := jL_parse (D := 64) HT.out
      rw [← hXL] at hR
      have H3 := Lib.hid (fun (W : World) (hW : GlobT W) => mparse_any (s := s) (D := 64) W hW.s (by omega) (by omega) (by omega))
      have H4 := Lib.hid (fun (W : World) (hW : GlobT W) => mparse_any (s := X) (D := 64) W hW.s (by omega) (by omega) (by omega))
      have H5 := Lib.hid (fun (W : World) (hW : GlobT W) => mparse_any (s := ⟨#[109, 100, 112, 32, 109, 111, 100, 117, 108, 101, 32, 109, 32, 91, 93, 32, 116, 114, 117, 101, 32, 45, 62, 32, 116, 114, 117, 101, 32, 43, 32, 50, 32, 58, 32, 116, 114, 117, 101, 59, 32, 101, 110, 100, 109, 111, 100, 117, 108, 101]⟩) (D := 9) W hW.s (by decide) (by decide) (by decide))
      have H6 := Lib.hid (fun (W : World) (hW : GlobT W) => mparse_any (s := ⟨#[109, 100, 112, 32, 109, 111, 100, 117, 108, 101, 32, 109, 32, 91, 93, 32, 116, 114, 117, 101, 32, 45, 62, 32, 49, 32, 58, 32, 116, 114, 117, 101, 32, 43, 32, 50, 32, 58, 32, 116, 114, 117, 101, 59, 32, 101, 110, 100, 109, 111, 100, 117, 108, 101]⟩) (D := 9) W hW.s (by decide) (by decide) (by decide))
      rw [show (⟨#[109, 100, 112, 32, 109, 111, 100, 117, 108, 101, 32, 109, 32, 91, 93, 32, 116, 114, 117, 101, 32, 45, 62, 32, 116, 114, 117, 101, 32, 43, 32, 50, 32, 58, 32, 116, 114, 117, 101, 59, 32, 101, 110, 100, 109, 111, 100, 117, 108, 101]⟩ : ByteArray).data.toList = exBx from rfl, HX.out] at H5
      rw [show (⟨#[109, 100, 112, 32, 109, 111, 100, 117, 108, 101, 32, 109, 32, 91, 93, 32, 116, 114, 117, 101, 32, 45, 62, 32, 49, 32, 58, 32, 116, 114, 117, 101, 32, 43, 32, 50, 32, 58, 32, 116, 114, 117, 101, 59, 32, 101, 110, 100, 109, 111, 100, 117, 108, 101]⟩ : ByteArray).data.toList = exBy from rfl, HY.out] at H6
      have okx := parse_okM (by decide) HX.out
      have oky := parse_okM (by decide) HY.out
      have hox : MdOk mx := mdok_of okx.1 (by have := okx.2; have e : exBx.length = 50 := rfl; omega)
      have hoy : MdOk my := mdok_of oky.1 (by have := oky.2; have e : exBy.length = 54 := rfl; omega)
      obtain ⟨tz, htz, _⟩ := str_ofM (tlM mx) _ (Nat.le_refl _)
      have HOX := Lib.hid hox
      have HOY := Lib.hid hoy
      have HTX := Lib.hid htz
      have HTY := Lib.hid (htz.trans HXY.out)
      clear hbl htk hX okx oky hox hoy htz
      cases hp : parseM 64 s.data.toList with
      | ok m3 =>
        cases hq : parseM 64 X.data.toList with
        | er c q => rw [hp, hq] at hR; exact hR.elim
        | ok m4 =>
          rw [hp, hq] at hR
          rw [hp] at H3
          rw [hq] at H4
          have ok3 := parse_okM (by rw [size_list]; omega) hp
          have ok4 := parse_okM (by rw [size_list]; omega) hq
          rw [size_list] at ok3 ok4
          have HO3 := Lib.hid (mdok_of ok3.1 (by omega))
          have HO4 := Lib.hid (mdok_of ok4.1 (by omega))
          obtain ⟨t, ht3, _⟩ := str_ofM (tlM m3) _ (Nat.le_refl _)
          have HT3 := Lib.hid ht3
          have HT4 := Lib.hid (ht3.trans (tlM_same hR))
          clear hp hq hR hXL ok3 ok4 ht3
          -- OK
          have HOa := HO3
          have HOb := HO4
          have HTa := HT3
          have HTb := HT4
          go_wp2_with fail
          refine (H3.out _ HG2.out).mono ?_
          rintro e w3 ⟨v3, rfl, hC, hba⟩
          have HBa := Lib.hid ((HB2.out).trans (hba.mono (HB2.out).size))
          have HCa := Lib.hid hC
          have HXa := Lib.hid (show Bx (w3.alloc (.cells #[.slice v3.A1 m3.consts.length v3.c1, .slice v3.A2 m3.formulas.length v3.c2, .slice v3.A3 m3.labels.length v3.c3, .slice v3.A4 m3.mods.length v3.c4] 26)) w3.heap.size 26 [.slice v3.A1 m3.consts.length v3.c1, .slice v3.A2 m3.formulas.length v3.c2, .slice v3.A3 m3.labels.length v3.c3, .slice v3.A4 m3.mods.length v3.c4] from Bx.new _ _ _)
          clear hba hC
          dsimp only [MdV.v1, MdV.v2, MdV.v3, MdV.v4]
          go_wp2_with fail
          refine calls_gen (P := fun W => Bx W w3.heap.size 26 [.slice v3.A1 m3.consts.length v3.c1, .slice v3.A2 m3.formulas.length v3.c2, .slice v3.A3 m3.labels.length v3.c3, .slice v3.A4 m3.mods.length v3.c4] ∧ MdR W w2.heap.size m3 v3 ∧ Below w.heap.size w W) ⟨HXa.out, HCa.out.belowX ((Below.refl _ _).alloc (Nat.le_refl _) _), HBa.out.alloc HBa.out.size _⟩ ?_
          rintro W ⟨hE, hE2, hB⟩
          refine (H4.out _ (HG.out.below hB)).mono ?_
          rintro e w4 ⟨v4, rfl, hC, hbb⟩
          have LK := Lib.hid (show Mem2 w (w4.alloc (.cells #[.slice v4.A1 m4.consts.length v4.c1, .slice v4.A2 m4.formulas.length v4.c2, .slice v4.A3 m4.labels.length v4.c3, .slice v4.A4 m4.mods.length v4.c4] 26)) w3.heap.size w4.heap.size m3 m4 v3 v4 from
            have hB5 := hB.trans (hbb.mono hB.size)
            have hB6 := hB5.alloc hB5.size (.cells #[.slice v4.A1 m4.consts.length v4.c1, .slice v4.A2 m4.formulas.length v4.c2, .slice v4.A3 m4.labels.length v4.c3, .slice v4.A4 m4.mods.length v4.c4] 26)
            ⟨(hE.below hbb).alloc _, Bx.new _ _ _, ⟨_, (hE2.belowX hbb).belowX ((Below.refl _ _).alloc (Nat.le_refl _) _)⟩, ⟨_, hC.belowX ((Below.refl _ _).alloc (Nat.le_refl _) _)⟩, HG.out.below hB6, hB6⟩)
          clear hE hE2 hB hbb hC HBa HCa HXa
          dsimp only [MdV.v1, MdV.v2, MdV.v3, MdV.v4]
          go_wp2_with fail
          have lk := LK.out
          clear LK
          generalize w4.alloc (.cells #[.slice v4.A1 m4.consts.length v4.c1, .slice v4.A2 m4.formulas.length v4.c2, .slice v4.A3 m4.labels.length v4.c3, .slice v4.A4 m4.mods.length v4.c4] 26) = W4 at lk ⊢
          generalize w3.heap.size = ba at lk ⊢
          generalize w4.heap.size = bb at lk ⊢
          replace lk := lk.drew
          go_region_held3 (fun w' => w'.cell? ⟨ba, 0, none⟩ = some (.slice v3.A1 m3.consts.length v3.c1) ∧ w'.cell? ⟨ba, 1, none⟩ = some (.slice v3.A2 m3.formulas.length v3.c2) ∧ w'.cell? ⟨ba, 2, none⟩ = some (.slice v3.A3 m3.labels.length v3.c3) ∧ w'.cell? ⟨ba, 3, none⟩ = some (.slice v3.A4 m3.mods.length v3.c4) ∧ w'.cell? ⟨bb, 0, none⟩ = some (.slice v4.A1 m4.consts.length v4.c1) ∧ w'.cell? ⟨bb, 1, none⟩ = some (.slice v4.A2 m4.formulas.length v4.c2) ∧ w'.cell? ⟨bb, 2, none⟩ = some (.slice v4.A3 m4.labels.length v4.c3) ∧ w'.cell? ⟨bb, 3, none⟩ = some (.slice v4.A4 m4.mods.length v4.c4)) (exact ⟨lk.x3.cell 0, lk.x3.cell 1, lk.x3.cell 2, lk.x3.cell 3, lk.x4.cell 0, lk.x4.cell 1, lk.x4.cell 2, lk.x4.cell 3⟩) (first
            | (go_at_call 9; (with_reducible refine (lk.nil).mono ?_); rintro e wA ⟨rfl, lk2⟩; replace lk := lk2; clear lk2)
            | (go_at_call 13; (with_reducible refine (lk.p3 HOa.out HTa.out).mono ?_); rintro e wA ⟨rfl, lk2⟩; replace lk := lk2; clear lk2)
            | (go_at_call 13; (with_reducible refine (lk.p4 HOb.out HTb.out).mono ?_); rintro e wA ⟨rfl, lk2⟩; replace lk := lk2; clear lk2))
          clear HOa HOb HTa HTb HO3 HO4 HT3 HT4 H3 H4
          have LX := Lib.hid lk
          clear lk
          have HOa := HOX
          have HOb := HOY
          have HTa := HTX
          have HTb := HTY
          go_wp2_with fail
          refine (H5.out _ LX.out.g).mono ?_
          rintro e w7 ⟨v7, rfl, hC, hba⟩
          have HBa := Lib.hid ((LX.out.b).trans (hba.mono (LX.out.b).size))
          have HCa := Lib.hid hC
          have HXa := Lib.hid (show Bx (w7.alloc (.cells #[.slice v7.A1 mx.consts.length v7.c1, .slice v7.A2 mx.formulas.length v7.c2, .slice v7.A3 mx.labels.length v7.c3, .slice v7.A4 mx.mods.length v7.c4] 26)) w7.heap.size 26 [.slice v7.A1 mx.consts.length v7.c1, .slice v7.A2 mx.formulas.length v7.c2, .slice v7.A3 mx.labels.length v7.c3, .slice v7.A4 mx.mods.length v7.c4] from Bx.new _ _ _)
          clear hba hC
          dsimp only [MdV.v1, MdV.v2, MdV.v3, MdV.v4]
          go_wp2_with fail
          refine calls_gen (P := fun W => Bx W w7.heap.size 26 [.slice v7.A1 mx.consts.length v7.c1, .slice v7.A2 mx.formulas.length v7.c2, .slice v7.A3 mx.labels.length v7.c3, .slice v7.A4 mx.mods.length v7.c4] ∧ MdR W wA.heap.size mx v7 ∧ Below w.heap.size w W) ⟨HXa.out, HCa.out.belowX ((Below.refl _ _).alloc (Nat.le_refl _) _), HBa.out.alloc HBa.out.size _⟩ ?_
          rintro W ⟨hE, hE2, hB⟩
          refine (H6.out _ (HG.out.below hB)).mono ?_
          rintro e w8 ⟨v8, rfl, hC, hbb⟩
          have LK := Lib.hid (show Mem2 w (w8.alloc (.cells #[.slice v8.A1 my.consts.length v8.c1, .slice v8.A2 my.formulas.length v8.c2, .slice v8.A3 my.labels.length v8.c3, .slice v8.A4 my.mods.length v8.c4] 26)) w7.heap.size w8.heap.size mx my v7 v8 from
            have hB5 := hB.trans (hbb.mono hB.size)
            have hB6 := hB5.alloc hB5.size (.cells #[.slice v8.A1 my.consts.length v8.c1, .slice v8.A2 my.formulas.length v8.c2, .slice v8.A3 my.labels.length v8.c3, .slice v8.A4 my.mods.length v8.c4] 26)
            ⟨(hE.below hbb).alloc _, Bx.new _ _ _, ⟨_, (hE2.belowX hbb).belowX ((Below.refl _ _).alloc (Nat.le_refl _) _)⟩, ⟨_, hC.belowX ((Below.refl _ _).alloc (Nat.le_refl _) _)⟩, HG.out.below hB6, hB6⟩)
          clear hE hE2 hB hbb hC HBa HCa HXa
          dsimp only [MdV.v1, MdV.v2, MdV.v3, MdV.v4]
          go_wp2_with fail
          have lk := LK.out
          clear LK
          generalize w8.alloc (.cells #[.slice v8.A1 my.consts.length v8.c1, .slice v8.A2 my.formulas.length v8.c2, .slice v8.A3 my.labels.length v8.c3, .slice v8.A4 my.mods.length v8.c4] 26) = W4 at lk ⊢
          generalize w7.heap.size = ba at lk ⊢
          generalize w8.heap.size = bb at lk ⊢
          replace lk := lk.drew
          go_region_held3 (fun w' => w'.cell? ⟨ba, 0, none⟩ = some (.slice v7.A1 mx.consts.length v7.c1) ∧ w'.cell? ⟨ba, 1, none⟩ = some (.slice v7.A2 mx.formulas.length v7.c2) ∧ w'.cell? ⟨ba, 2, none⟩ = some (.slice v7.A3 mx.labels.length v7.c3) ∧ w'.cell? ⟨ba, 3, none⟩ = some (.slice v7.A4 mx.mods.length v7.c4) ∧ w'.cell? ⟨bb, 0, none⟩ = some (.slice v8.A1 my.consts.length v8.c1) ∧ w'.cell? ⟨bb, 1, none⟩ = some (.slice v8.A2 my.formulas.length v8.c2) ∧ w'.cell? ⟨bb, 2, none⟩ = some (.slice v8.A3 my.labels.length v8.c3) ∧ w'.cell? ⟨bb, 3, none⟩ = some (.slice v8.A4 my.mods.length v8.c4)) (exact ⟨lk.x3.cell 0, lk.x3.cell 1, lk.x3.cell 2, lk.x3.cell 3, lk.x4.cell 0, lk.x4.cell 1, lk.x4.cell 2, lk.x4.cell 3⟩) (first
            | (go_at_call 9; (with_reducible refine (lk.nil).mono ?_); rintro e wA ⟨rfl, lk2⟩; replace lk := lk2; clear lk2)
            | (go_at_call 13; (with_reducible refine (lk.p3 HOa.out HTa.out).mono ?_); rintro e wA ⟨rfl, lk2⟩; replace lk := lk2; clear lk2)
            | (go_at_call 13; (with_reducible refine (lk.p4 HOb.out HTb.out).mono ?_); rintro e wA ⟨rfl, lk2⟩; replace lk := lk2; clear lk2))
          go_wp2
          go_ret
          exact ⟨rfl, lk.b⟩
      | er c q =>
        cases hq : parseM 64 X.data.toList with
        | ok m4 => rw [hp, hq] at hR; exact hR.elim
        | er c' q' =>
          rw [hp, hq] at hR
          obtain rfl : c = c' := hR
          rw [hp] at H3
          rw [hq] at H4
          clear hp hq hXL
          go_wp2_with fail
          refine (H3.out _ HG2.out).mono ?_
          rintro e w3 ⟨b3, rfl, hA, hb3⟩
          have HB3 := Lib.hid (HB2.out.trans (hb3.mono HB2.out.size))
          have HA3 := Lib.hid hA
          clear hb3 hA
          go_wp2_with fail
          refine calls_gen (P := fun W => AtE W b3 q c ∧ Below w.heap.size w W) ⟨HA3.out.alloc _, HB3.out.alloc HB3.out.size _⟩ ?_
          rintro W ⟨hA, hB⟩
          refine (H4.out _ (HG.out.below hB)).mono ?_
          rintro e w4 ⟨b4, rfl, hA4, hb4⟩
          have HA := Lib.hid (hA.below hb4)
          have HA4 := Lib.hid hA4
          have HB4 := Lib.hid (hB.trans (hb4.mono hB.size))
          clear hA hB hb4 hA4 HA3 HB3
          have LK := Lib.hid (show MemEr w (w4.alloc (.cells #[.slice none 0 0, .slice none 0 0, .slice none 0 0, .slice none 0 0] 26)) b3 b4 q q' c from ⟨HA.out.alloc _, HA4.out.alloc _, HG.out.below (HB4.out.alloc HB4.out.size _), HB4.out.alloc HB4.out.size _⟩)
          clear HA HA4 HB4
          go_wp2_with fail
          have lk := LK.out
          clear LK
          generalize w4.alloc (.cells #[.slice none 0 0, .slice none 0 0, .slice none 0 0, .slice none 0 0] 26) = W4 at lk ⊢
          replace lk := lk.drew
          -- ER
          refine wp_region_held_drew (S := (fun _ : World => True)) (by kernel_rfl) (trivial) (fun hHeld => ?_)
          refine wpAnyH_take (i := 0) (oi := { dst := some 63, op := Op.move (Operand.tmp 9), type := 28, pos := "law.go:158", after := #[], guard := none }) (v := Value.iface 101 (Value.pointer (some { block := b3, off := 0 }))) rfl (by kernel_rfl) (by kernel_rfl) (by kernel_rfl) (fun _ _ _ h => h) (Or.inl ⟨by rfl, ?hy⟩) (by assumption) ?_
          case hy => (intro wz hSw; (try dsimp only at hSw); go_simp)
          simp only [Act.put, List.setIfInBounds_toArray, List.set_cons_zero, List.set_cons_succ]
          refine wpAnyH_take (i := 2) (oi := { dst := some 65, op := Op.move (Operand.tmp 11), type := 28, pos := "law.go:158", after := #[], guard := none }) (v := Value.iface 101 (Value.pointer (some { block := b4, off := 0 }))) rfl (by kernel_rfl) (by kernel_rfl) (by kernel_rfl) (fun _ _ _ h => h) (Or.inl ⟨by rfl, ?hy⟩) (by assumption) ?_
          case hy => (intro wz hSw; (try dsimp only at hSw); go_simp)
          simp only [Act.put, List.setIfInBounds_toArray, List.set_cons_zero, List.set_cons_succ]
          refine wpAnyH_ready (rs := [1]) (by kernel_rfl) (by simp) ?_
          refine AllReadyH.cons (o := { dst := some 64, op := Op.call { callee := Callee.value (Operand.func 9), args := #[Operand.tmp 63], argTypes := #[28] }, type := 3, pos := "law.go:158", after := #[{ on := 0, ground := Ground.data }], guard := none }) rfl (fun K0 hK0 => ?_) AllReadyH.nil
          go_simp
          go_at_call 9
          with_reducible refine (lk.n3).mono ?_
          rintro e wA ⟨rfl, lk2⟩
          replace lk := lk2
          clear lk2
          go_wp2_with fail
          refine hK0.out _ _ (trivial) (fun hHeld => ?_)
          clear hK0 K0
          try simp only [Act.put, List.setIfInBounds_toArray, List.set_cons_zero, List.set_cons_succ]
          refine wpAnyH_ready (rs := [3]) (by kernel_rfl) (by simp) ?_
          refine AllReadyH.cons (o := { dst := some 66, op := Op.call { callee := Callee.value (Operand.func 9), args := #[Operand.tmp 65], argTypes := #[28] }, type := 3, pos := "law.go:158", after := #[{ on := 2, ground := Ground.data }, { on := 1, ground := Ground.chain }], guard := none }) rfl (fun K0 hK0 => ?_) AllReadyH.nil
          go_simp
          go_at_call 9
          with_reducible refine (lk.n4).mono ?_
          rintro e wA ⟨rfl, lk2⟩
          replace lk := lk2
          clear lk2
          go_wp2_with fail
          refine hK0.out _ _ (trivial) (fun hHeld => ?_)
          clear hK0 K0
          try simp only [Act.put, List.setIfInBounds_toArray, List.set_cons_zero, List.set_cons_succ]
          refine wpAnyH_take (i := 4) (oi := { dst := some 67, op := Op.binOp BinOp.neq 3 (Operand.tmp 64) (Operand.tmp 66) 3, type := 4, pos := "law.go:158", after := #[{ on := 1, ground := Ground.data }, { on := 3, ground := Ground.data }], guard := none }) (v := Value.bool false) rfl (by kernel_rfl) (by kernel_rfl) (by kernel_rfl) (fun _ _ _ h => h) (Or.inl ⟨by rfl, ?hy⟩) (by assumption) ?_
          case hy => (intro wz hSw; (try dsimp only at hSw); go_simp)
          simp only [Act.put, List.setIfInBounds_toArray, List.set_cons_zero, List.set_cons_succ]
          refine wpAnyH_take (i := 5) (oi := { dst := some 68, op := Op.move (Operand.tmp 67), type := 4, pos := "law.go:158", after := #[{ on := 4, ground := Ground.data }, { on := 3, ground := Ground.chain }], guard := none }) (v := Value.bool false) rfl (by kernel_rfl) (by kernel_rfl) (by kernel_rfl) (fun _ _ _ h => h) (Or.inl ⟨by rfl, ?hy⟩) (by assumption) ?_
          case hy => (intro wz hSw; (try dsimp only at hSw); go_simp)
          simp only [Act.put, List.setIfInBounds_toArray, List.set_cons_zero, List.set_cons_succ]
          refine wpAnyH_take (i := 6) (oi := { dst := some 69, op := Op.move (Operand.tmp 9), type := 28, pos := "law.go:158", after := #[{ on := 5, ground := Ground.guard }], guard := some (5, false) }) (v := Value.iface 101 (Value.pointer (some { block := b3, off := 0 }))) rfl (by kernel_rfl) (by kernel_rfl) (by kernel_rfl) (fun _ _ _ h => h) (Or.inl ⟨by rfl, ?hy⟩) (by assumption) ?_
          case hy => (intro wz hSw; (try dsimp only at hSw); go_simp)
          simp only [Act.put, List.setIfInBounds_toArray, List.set_cons_zero, List.set_cons_succ]
          refine wpAnyH_take (i := 7) (oi := { dst := some 70, op := Op.binOp BinOp.eql 28 (Operand.tmp 69) (Operand.const Value.nilIface) 28, type := 4, pos := "law.go:158", after := #[{ on := 6, ground := Ground.data }, { on := 5, ground := Ground.guard }], guard := some (5, false) }) (v := Value.bool false) rfl (by kernel_rfl) (by kernel_rfl) (by kernel_rfl) (fun _ _ _ h => h) (Or.inl ⟨by rfl, ?hy⟩) (by assumption) ?_
          case hy => (intro wz hSw; (try dsimp only at hSw); go_simp)
          simp only [Act.put, List.setIfInBounds_toArray, List.set_cons_zero, List.set_cons_succ]
          refine wpAnyH_take (i := 8) (oi := { dst := some 71, op := Op.move (Operand.tmp 70), type := 4, pos := "law.go:158", after := #[{ on := 7, ground := Ground.data }, { on := 5, ground := Ground.chain }, { on := 5, ground := Ground.guard }], guard := some (5, false) }) (v := Value.bool false) rfl (by kernel_rfl) (by kernel_rfl) (by kernel_rfl) (fun _ _ _ h => h) (Or.inl ⟨by rfl, ?hy⟩) (by assumption) ?_
          case hy => (intro wz hSw; (try dsimp only at hSw); go_simp)
          simp only [Act.put, List.setIfInBounds_toArray, List.set_cons_zero, List.set_cons_succ]
          refine wpAnyH_take (i := 9) (oi := { dst := some 72, op := Op.load 26 (Operand.tmp 8), type := 26, pos := "law.go:158", after := #[{ on := 8, ground := Ground.guard }], guard := some (8, true) }) (v := undef) rfl (by kernel_rfl) (by kernel_rfl) (by kernel_rfl) (fun _ _ _ h => h) (Or.inr ⟨by rfl, rfl⟩) (by assumption) ?_
          simp only [Act.put, List.setIfInBounds_toArray, List.set_cons_zero, List.set_cons_succ]
          refine wpAnyH_take (i := 11) (oi := { dst := some 74, op := Op.load 26 (Operand.tmp 10), type := 26, pos := "law.go:158", after := #[{ on := 8, ground := Ground.guard }], guard := some (8, true) }) (v := undef) rfl (by kernel_rfl) (by kernel_rfl) (by kernel_rfl) (fun _ _ _ h => h) (Or.inr ⟨by rfl, rfl⟩) (by assumption) ?_
          simp only [Act.put, List.setIfInBounds_toArray, List.set_cons_zero, List.set_cons_succ]
          refine wpAnyH_ready (rs := [10]) (by kernel_rfl) (by simp) ?_
          refine AllReadyH.cons (o := { dst := some 73, op := Op.call { callee := Callee.value (Operand.func 13), args := #[Operand.tmp 72], argTypes := #[26] }, type := 9, pos := "law.go:158", after := #[{ on := 9, ground := Ground.data }, { on := 8, ground := Ground.chain }, { on := 8, ground := Ground.guard }], guard := some (8, true) }) rfl (fun K0 hK0 => ?_) AllReadyH.nil
          refine Eq.mpr (if_neg ?hn) ?_
          case hn => exact fun hx => Bool.noConfusion (show false = true from hx)
          refine hK0.out _ _ (trivial) (fun hHeld => ?_)
          clear hK0 K0
          try simp only [Act.put, List.setIfInBounds_toArray, List.set_cons_zero, List.set_cons_succ]
          refine wpAnyH_ready (rs := [12]) (by kernel_rfl) (by simp) ?_
          refine AllReadyH.cons (o := { dst := some 75, op := Op.call { callee := Callee.value (Operand.func 13), args := #[Operand.tmp 74], argTypes := #[26] }, type := 9, pos := "law.go:158", after := #[{ on := 11, ground := Ground.data }, { on := 10, ground := Ground.chain }, { on := 8, ground := Ground.guard }], guard := some (8, true) }) rfl (fun K0 hK0 => ?_) AllReadyH.nil
          refine Eq.mpr (if_neg ?hn) ?_
          case hn => exact fun hx => Bool.noConfusion (show false = true from hx)
          refine hK0.out _ _ (trivial) (fun hHeld => ?_)
          clear hK0 K0
          try simp only [Act.put, List.setIfInBounds_toArray, List.set_cons_zero, List.set_cons_succ]
          refine wpAnyH_take (i := 13) (oi := { dst := some 76, op := Op.binOp BinOp.neq 9 (Operand.tmp 73) (Operand.tmp 75) 9, type := 4, pos := "law.go:158", after := #[{ on := 10, ground := Ground.data }, { on := 12, ground := Ground.data }, { on := 8, ground := Ground.guard }], guard := some (8, true) }) (v := undef) rfl (by kernel_rfl) (by kernel_rfl) (by kernel_rfl) (fun _ _ _ h => h) (Or.inr ⟨by rfl, rfl⟩) (by assumption) ?_
          simp only [Act.put, List.setIfInBounds_toArray, List.set_cons_zero, List.set_cons_succ]
          refine wpAnyH_take (i := 14) (oi := { dst := some 77, op := Op.pick (Operand.tmp 71) (Operand.tmp 76) (Operand.const (Value.bool false)), type := 4, pos := "law.go:158", after := #[{ on := 8, ground := Ground.data }, { on := 13, ground := Ground.data }, { on := 5, ground := Ground.guard }], guard := some (5, false) }) (v := Value.bool false) rfl (by kernel_rfl) (by kernel_rfl) (by kernel_rfl) (fun _ _ _ h => h) (Or.inl ⟨by rfl, ?hy⟩) (by assumption) ?_
          case hy => (intro wz hSw; (try dsimp only at hSw); go_simp)
          simp only [Act.put, List.setIfInBounds_toArray, List.set_cons_zero, List.set_cons_succ]
          refine wpAnyH_take (i := 15) (oi := { dst := some 78, op := Op.pick (Operand.tmp 68) (Operand.const (Value.bool true)) (Operand.tmp 77), type := 4, pos := "law.go:158", after := #[{ on := 5, ground := Ground.data }, { on := 14, ground := Ground.data }], guard := none }) (v := Value.bool false) rfl (by kernel_rfl) (by kernel_rfl) (by kernel_rfl) (fun _ _ _ h => h) (Or.inl ⟨by rfl, ?hy⟩) (by assumption) ?_
          case hy => (intro wz hSw; (try dsimp only at hSw); go_simp)
          simp only [Act.put, List.setIfInBounds_toArray, List.set_cons_zero, List.set_cons_succ]
          refine wpAnyH_done (by kernel_rfl) ?_ _
          clear H3 H4
          have LX := Lib.hid lk
          clear lk
          have HOa := HOX
          have HOb := HOY
          have HTa := HTX
          have HTb := HTY
          go_wp2_with fail
          refine (H5.out _ LX.out.g).mono ?_
          rintro e w7 ⟨v7, rfl, hC, hba⟩
          have HBa := Lib.hid ((LX.out.b).trans (hba.mono (LX.out.b).size))
          have HCa := Lib.hid hC
          have HXa := Lib.hid (show Bx (w7.alloc (.cells #[.slice v7.A1 mx.consts.length v7.c1, .slice v7.A2 mx.formulas.length v7.c2, .slice v7.A3 mx.labels.length v7.c3, .slice v7.A4 mx.mods.length v7.c4] 26)) w7.heap.size 26 [.slice v7.A1 mx.consts.length v7.c1, .slice v7.A2 mx.formulas.length v7.c2, .slice v7.A3 mx.labels.length v7.c3, .slice v7.A4 mx.mods.length v7.c4] from Bx.new _ _ _)
          clear hba hC
          dsimp only [MdV.v1, MdV.v2, MdV.v3, MdV.v4]
          go_wp2_with fail
          refine calls_gen (P := fun W => Bx W w7.heap.size 26 [.slice v7.A1 mx.consts.length v7.c1, .slice v7.A2 mx.formulas.length v7.c2, .slice v7.A3 mx.labels.length v7.c3, .slice v7.A4 mx.mods.length v7.c4] ∧ MdR W wA.heap.size mx v7 ∧ Below w.heap.size w W) ⟨HXa.out, HCa.out.belowX ((Below.refl _ _).alloc (Nat.le_refl _) _), HBa.out.alloc HBa.out.size _⟩ ?_
          rintro W ⟨hE, hE2, hB⟩
          refine (H6.out _ (HG.out.below hB)).mono ?_
          rintro e w8 ⟨v8, rfl, hC, hbb⟩
          have LK := Lib.hid (show Mem2 w (w8.alloc (.cells #[.slice v8.A1 my.consts.length v8.c1, .slice v8.A2 my.formulas.length v8.c2, .slice v8.A3 my.labels.length v8.c3, .slice v8.A4 my.mods.length v8.c4] 26)) w7.heap.size w8.heap.size mx my v7 v8 from
            have hB5 := hB.trans (hbb.mono hB.size)
            have hB6 := hB5.alloc hB5.size (.cells #[.slice v8.A1 my.consts.length v8.c1, .slice v8.A2 my.formulas.length v8.c2, .slice v8.A3 my.labels.length v8.c3, .slice v8.A4 my.mods.length v8.c4] 26)
            ⟨(hE.below hbb).alloc _, Bx.new _ _ _, ⟨_, (hE2.belowX hbb).belowX ((Below.refl _ _).alloc (Nat.le_refl _) _)⟩, ⟨_, hC.belowX ((Below.refl _ _).alloc (Nat.le_refl _) _)⟩, HG.out.below hB6, hB6⟩)
          clear hE hE2 hB hbb hC HBa HCa HXa
          dsimp only [MdV.v1, MdV.v2, MdV.v3, MdV.v4]
          go_wp2_with fail
          have lk := LK.out
          clear LK
          generalize w8.alloc (.cells #[.slice v8.A1 my.consts.length v8.c1, .slice v8.A2 my.formulas.length v8.c2, .slice v8.A3 my.labels.length v8.c3, .slice v8.A4 my.mods.length v8.c4] 26) = W4 at lk ⊢
          generalize w7.heap.size = ba at lk ⊢
          generalize w8.heap.size = bb at lk ⊢
          replace lk := lk.drew
          go_region_held3 (fun w' => w'.cell? ⟨ba, 0, none⟩ = some (.slice v7.A1 mx.consts.length v7.c1) ∧ w'.cell? ⟨ba, 1, none⟩ = some (.slice v7.A2 mx.formulas.length v7.c2) ∧ w'.cell? ⟨ba, 2, none⟩ = some (.slice v7.A3 mx.labels.length v7.c3) ∧ w'.cell? ⟨ba, 3, none⟩ = some (.slice v7.A4 mx.mods.length v7.c4) ∧ w'.cell? ⟨bb, 0, none⟩ = some (.slice v8.A1 my.consts.length v8.c1) ∧ w'.cell? ⟨bb, 1, none⟩ = some (.slice v8.A2 my.formulas.length v8.c2) ∧ w'.cell? ⟨bb, 2, none⟩ = some (.slice v8.A3 my.labels.length v8.c3) ∧ w'.cell? ⟨bb, 3, none⟩ = some (.slice v8.A4 my.mods.length v8.c4)) (exact ⟨lk.x3.cell 0, lk.x3.cell 1, lk.x3.cell 2, lk.x3.cell 3, lk.x4.cell 0, lk.x4.cell 1, lk.x4.cell 2, lk.x4.cell 3⟩) (first
            | (go_at_call 9; (with_reducible refine (lk.nil).mono ?_); rintro e wA ⟨rfl, lk2⟩; replace lk := lk2; clear lk2)
            | (go_at_call 13; (with_reducible refine (lk.p3 HOa.out HTa.out).mono ?_); rintro e wA ⟨rfl, lk2⟩; replace lk := lk2; clear lk2)
            | (go_at_call 13; (with_reducible refine (lk.p4 HOb.out HTb.out).mono ?_); rintro e wA ⟨rfl, lk2⟩; replace lk := lk2; clear lk2))
          go_wp2
          go_ret
          exact ⟨rfl, lk.b⟩
theorem mblanks_yes (s : ByteArray) (w : World) (hG : GlobT w) (hs : s.size ≤ 140737488355328) : Calls Tryz.prog 5 #[.string s] w (LawF w) := by
  by_cases h : 1000 < s.size
  · exact mblanks_long s w hG hs h
  · cases ht : toks s.data.toList with
    | error x => obtain ⟨x, p⟩ := x; exact mblanks_er s w hG (by omega) ht
    | ok ts => exact mblanks_ok s w hG (by omega) ht
end Go.Proofs.YtodijgndbjfbgaaGreatDoor
