/-
  ScanJoins where both texts have tokens, walked.
-/
import Derived.Test.YtfemddchaihokaaDoorN3
import Derived.Test.YtfemddchaihokaaDoorM4
namespace Go.Proofs.YtfemddchaihokaaDoor
open Go.RowKit

theorem good_pos {l : List UInt8} : ∀ {ts : List Tok} {i : Nat}, Good l i ts → ∀ u ∈ ts, u.pos ≤ l.length
  | [], _, h, _, _ => by simp [Good] at h
  | [t], _, h, u, hu => by
    obtain ⟨_, _, _, h4⟩ := h
    obtain rfl := List.mem_singleton.1 hu
    omega
  | t :: v :: us, _, h, u, hu => by
    obtain ⟨_, h2, ⟨n, _, _, hg⟩, _⟩ := h
    rcases List.mem_cons.1 hu with rfl | hu
    · omega
    · exact good_pos hg u hu
def JoinRel (n : Nat) (W : World) (i : Value) (wr : World) : Prop := ∃ k : Nat, k ≤ n ∧ i = .int .i64 (k : Int) ∧ Below W.heap.size W wr

set_option maxRecDepth 100000 in
set_option maxHeartbeats 4000000 in
theorem joins_ok (s t : ByteArray) (w : World) (hG : GlobS w) (h3 : s.size + t.size ≤ 3000) {ts us : List Tok} (h : toks s.data.toList = .ok ts) (h2 : toks t.data.toList = .ok us) : Calls Tryd.prog 7 #[.string s, .string t] w (LawF w) := by
  obtain ⟨ini, hini, hj0⟩ := join_ok h h2
  have hj : toks (s ++ ⟨#[10]⟩ ++ t).data.toList = .ok (ini ++ us.map (mv (s.size + 1))) := by rw [glue_list, ← size_list s]; exact hj0
  have hlts : ts.length = ini.length + 1 := by rw [hini]; simp
  have hlcs : (ini ++ us.map (mv (s.size + 1))).length = ini.length + us.length := by simp
  have HA1 := Lib.hid (show ∀ (k : Nat) (hk : k < ini.length), ts[k]? = some ini[k] ∧ (ini ++ us.map (mv (s.size + 1)))[k]? = some ini[k] from fun k hk => by
    rw [hini, List.getElem?_append_left hk, List.getElem?_append_left hk, List.getElem?_eq_getElem hk]
    exact ⟨rfl, rfl⟩)
  have HA2 := Lib.hid (show ∀ (k : Nat) (hk : k < us.length), us[k]? = some us[k] ∧ (ini ++ us.map (mv (s.size + 1)))[ini.length + k]? = some (mv (s.size + 1) us[k]) from fun k hk => by
    rw [List.getElem?_append_right (by omega), Nat.add_sub_cancel_left, List.getElem?_map, List.getElem?_eq_getElem hk]
    exact ⟨rfl, rfl⟩)
  have H0 := Lib.hid (alive_yes w hG)
  have H1 := Lib.hid (fun (W : World) (hW : GlobS W) => tokens_ok W hW (by omega) h)
  have H2 := Lib.hid (fun (W : World) (hW : GlobS W) => tokens_ok W hW (by omega) h2)
  have H3 := Lib.hid (fun (W : World) (hW : GlobS W) => tokens_ok (s := s ++ ⟨#[10]⟩ ++ t) W hW (by rw [glue_size]; omega) hj)
  have HG := Lib.hid hG
  have g1 : decide (3000 < (s.size : Int) + t.size) = false := by simp; omega
  have HPU := Lib.hid (show ∀ u ∈ us, u.pos ≤ 3000 from fun u hu => by have := good_pos (good_toks h2) u hu; rw [size_list] at this; omega)
  clear hG h hj h2 hini hj0
  obtain ⟨na, hna⟩ : ∃ na, na = ts.length := ⟨_, rfl⟩
  obtain ⟨nb, hnb⟩ : ∃ nb, nb = us.length := ⟨_, rfl⟩
  obtain ⟨nc, hnc⟩ : ∃ nc, nc = (ini ++ us.map (mv (s.size + 1))).length := ⟨_, rfl⟩
  have HNA := Lib.hid hna
  have HNB := Lib.hid hnb
  have HNC := Lib.hid hnc
  have i1 : na ≤ ini.length + 1 := by omega
  have i2 : ini.length + 1 ≤ na := by omega
  have i3 : nc ≤ ini.length + nb := by omega
  have i4 : ini.length + nb ≤ nc := by omega
  clear hlts hlcs hna hnb hnc
  go_enter Tryd.func7, Tryd.ntmps7
  go_wp2_with fail
  with_reducible refine (H0.out).mono ?_
  rintro e w1 ⟨rfl, hb1⟩
  have H1' := Lib.hid (H1.out w1 (HG.out.below hb1))
  have HB1 := Lib.hid hb1
  clear hb1
  go_wp2_with fail
  with_reducible refine (H1'.out).mono ?_
  rintro e w2 ⟨ga, ca, rfl, _, la, hoa, hb2⟩
  rw [← HNA.out] at la ⊢
  have HOA2 := Lib.hid hoa
  have HB2 := Lib.hid (HB1.out.trans (hb2.mono HB1.out.size))
  have H2' := Lib.hid (H2.out w2 (HG.out.below HB2.out))
  clear hb2 hoa
  go_wp2_with fail
  with_reducible refine (H2'.out).mono ?_
  rintro e w3 ⟨gb, cb, rfl, _, lb, hob, hb3⟩
  rw [← HNB.out] at lb ⊢
  have HOA3 := Lib.hid (owns_below HOA2.out hb3)
  have HOB3 := Lib.hid hob
  have HB3 := Lib.hid (HB2.out.trans (hb3.mono HB2.out.size))
  have H3' := Lib.hid (H3.out w3 (HG.out.below HB3.out))
  clear hb3 hob
  go_wp2_with fail
  with_reducible refine (H3'.out).mono ?_
  rintro e w4 ⟨gc, cc, rfl, _, lc, hoc, hb4⟩
  rw [← HNC.out] at lc ⊢
  have HOA4 := Lib.hid (owns_below HOA3.out hb4)
  have HOB4 := Lib.hid (owns_below HOB3.out hb4)
  have HOC4 := Lib.hid hoc
  have HB4 := Lib.hid (HB3.out.trans (hb4.mono HB3.out.size))
  have g5 : ((nc : Int) != (na : Int) + nb - 1) = false := by rw [bne_eq_false_iff_eq]; omega
  clear hb4 hoc HOA2 HOA3 HOB3
  go_wp2_with fail
  clear g5
  go_loopw [11] (fun i wr => JoinRel nc w4 i wr) (fun i _ => nc - (intOf i).toNat)
  case atStart => exact ⟨0, Nat.zero_le _, rfl, Below.refl _ _⟩
  case round =>
    obtain ⟨k, hk, rfl, hbr⟩ := hrel
    have hoa := owns_below HOA4.out hbr
    have hob := owns_below HOB4.out hbr
    have hoc := owns_below HOC4.out hbr
    have HBR := Lib.hid hbr
    clear hbr
    by_cases hlt : k < nc
    · have hd1 : decide (k < nc) = true := by simp; omega
      by_cases hini : k < ini.length
      · obtain ⟨e1, e2⟩ := HA1.out k hini
        obtain ⟨a0, a1, a2⟩ := tok_cells hoa e1
        obtain ⟨c0, c1, c2⟩ := tok_cells hoc e2
        have hne := neq_sameT ini[k].kind ini[k].pos ⟨ini[k].text.toArray⟩
        have hgd := guardT
        have hd2 : decide ((k : Int) < (na : Int) - 1) = true := by simp; omega
        clear e1 e2 hoa hob hoc
        generalize (⟨ini[k].text.toArray⟩ : ByteArray) = tb at *
        generalize (ini[k].kind : Int) = kd at *
        generalize (ini[k].pos : Int) = ps at *
        have hkna : k < na := by omega
        go_wp2_with fail
        go_quiet (fail)
        go_wp2
        go_roundw
        case rel => exact ⟨k + 1, by omega, by go_num, below_drewN HBR.out _⟩
        case measure => simp [intOf]; omega
      · obtain ⟨j, hj⟩ : ∃ j, k = ini.length + j := ⟨k - ini.length, by omega⟩
        have hjl : j < us.length := by rw [← HNB.out]; omega
        obtain ⟨e1, e2⟩ := HA2.out j hjl
        rw [← hj] at e2
        obtain ⟨b0, b1, b2⟩ := tok_cells hob e1
        obtain ⟨c0, c1, c2⟩ := tok_cells hoc e2
        have hup := HPU.out us[j] (List.getElem_mem hjl)
        have hgl : gc < wr.heap.size := (hoc.lt gc rfl).2
        have hgb : gb < wr.heap.size := (hob.lt gb rfl).2
        simp only [mv] at c0 c1 c2
        have hd2 : decide ((k : Int) < (na : Int) - 1) = false := by simp; omega
        have w1 : (k : Int) - na + 1 = j := by omega
        have hjn : j < nb := by omega
        have hps : ((us[j].pos + (s.size + 1) : Nat) : Int) = (us[j].pos : Int) + s.size + 1 := by omega
        rw [hps] at c2
        have hne := neq_sameT us[j].kind ((us[j].pos : Int) + s.size + 1) ⟨us[j].text.toArray⟩
        have hgd := guardT
        have hup0 : (0 : Int) ≤ us[j].pos := by omega
        have hup1 : (us[j].pos : Int) ≤ 3000 := by omega
        clear e1 e2 hoa hob hoc hps hup hj
        generalize (⟨us[j].text.toArray⟩ : ByteArray) = tb at *
        generalize (us[j].kind : Int) = kd at *
        generalize (us[j].pos : Int) = ps at *
        clear hjl
        go_wp2_with fail
        go_quiet (fail)
        clear w1
        go_wp2
        go_roundw
        case rel => exact ⟨k + 1, by omega, by go_num, below_drewN (HBR.out.alloc HBR.out.size _) _⟩
        case measure => simp [intOf]; omega
    · have hd1 : decide (k < nc) = false := by simpa using hlt
      clear hoa hob hoc
      go_wp2
      go_ret
      exact ⟨rfl, HB4.out.trans (HBR.out.mono HB4.out.size)⟩

theorem joins_yes (s t : ByteArray) (w : World) (hG : GlobS w) (hs : s.data.toList.length ≤ reachBytes) (ht : t.data.toList.length ≤ reachBytes) : Calls Tryd.prog 7 #[.string s, .string t] w (LawF w) := by
  have hr : reachBytes ≤ 140737488355328 := by decide
  rw [size_list] at hs ht
  by_cases h3 : 3000 < s.size + t.size
  · exact joins_long s t w hG (by omega) (by omega) h3
  cases h : toks s.data.toList with
  | error x => exact joins_er s t w hG (by omega) (x := x.1) (p := x.2) h
  | ok ts =>
    cases h2 : toks t.data.toList with
    | error x =>
      have hp := toks_pos (x := x.1) (q := x.2) h2
      rw [size_list] at hp
      exact joins_er2 s t w hG (by omega) (x := x.1) (p := x.2) h h2 (by omega)
    | ok us => exact joins_ok s t w hG (by omega) h h2
end Go.Proofs.YtfemddchaihokaaDoor
