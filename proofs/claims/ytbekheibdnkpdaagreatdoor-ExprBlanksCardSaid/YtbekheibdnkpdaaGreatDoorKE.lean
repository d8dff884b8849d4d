/-
  ExprBlanks, walked.
-/
import Derived.Test.YtbekheibdnkpdaaGreatDoorKD
import Derived.Test.YtbekheibdnkpdaaGreatDoorQS
namespace Go.Proofs.YtbekheibdnkpdaaGreatDoor
open Go.RowKit Go.Sort

theorem mk_listX (x : ByteArray) (l : List UInt8) (h : x.data.toList = l) : x = ⟨l.toArray⟩ := by rw [← h]
theorem tab_len {l : List UInt8} : ∀ {ts : List Tok} {i : Nat}, Good l i ts → (∀ t ∈ ts, t.kind ≠ 3) → (tabL ts).length + 8 * i ≤ 8 * l.length + 7
  | [], _, h, _ => by simp [Good] at h
  | [t], i, h, _ => by
    obtain ⟨h1, h2, h3, h4⟩ := h
    rw [tabL_cons, h2]
    simp [tabL]
    omega
  | t :: v :: us, i, h, h3 => by
    obtain ⟨h1, h2, ⟨n, hm, ht, hg⟩, _⟩ := h
    obtain ⟨hf, hfl⟩ := good_full h2 hm ht
    have hk := meas_kinds (drop_ne h2) hm
    have hk3 := h3 t (by simp)
    have hfu : full t = t.text := by unfold full; rw [if_neg hk3]
    rw [hfu] at hfl
    have ih := tab_len hg (fun u hu => h3 u (List.mem_cons_of_mem _ hu))
    rw [tabL_cons]
    simp only [List.length_append, List.length_cons]
    omega
theorem blk_len {l : List UInt8} {ts : List Tok} (h : toks l = .ok ts) (h3 : ∀ t ∈ ts, t.kind ≠ 3) : (blkL ts).length ≤ 8 * l.length + 13 := by
  have := tab_len (good_toks h) h3
  simp only [blkL, List.length_cons]
  omega
def BlRel (ts : List Tok) (n : Nat) (x i : Value) : Prop := ∃ k : Nat, k ≤ n ∧ x = .string ⟨(blkL (ts.take k)).toArray⟩ ∧ (∀ t ∈ ts.take k, t.kind ≠ 3) ∧ i = .int .i64 (k : Int) ∧ (blkL (ts.take k)).length ≤ k * 1007 + 6
theorem blanks_long (s : ByteArray) (d : Int) (w : World) (hG : GlobT w) (hs : s.size ≤ 140737488355328) (h : 1000 < s.size) : Calls Tryz.prog 8 #[.string s, .int .i64 d] w (LawF w) := by
  have H0 := Lib.hid (alive_yes w hG)
  have g1 : decide (1000 < (s.size : Int)) = true := by simp; omega
  have g1' : decide (1000 < s.size) = true := by simp; omega
  clear hG h
  go_enter Tryz.func8, Tryz.ntmps8
  go_wp2_with fail
  with_reducible refine (H0.out).mono ?_
  rintro e w1 ⟨rfl, hb1⟩
  go_wp2
  go_ret
  exact ⟨rfl, hb1⟩
theorem blanks_er (s : ByteArray) (d : Int) (w : World) (hG : GlobT w) (h : s.size ≤ 1000) {x p : Nat} (ht : toks s.data.toList = .error (x, p)) : Calls Tryz.prog 8 #[.string s, .int .i64 d] w (LawF w) := by
  have H0 := Lib.hid (alive_yes w hG)
  have g1 : decide (1000 < (s.size : Int)) = false := by simp; omega
  have g1' : decide (1000 < s.size) = false := by simp; omega
  have HG := Lib.hid hG
  have H1 := Lib.hid (fun (W : World) (hW : GlobT W) => tokens_er W hW.s (by omega) ht)
  clear hG ht
  go_enter Tryz.func8, Tryz.ntmps8
  go_wp2_with fail
  with_reducible refine (H0.out).mono ?_
  rintro e w1 ⟨rfl, hb1⟩
  have HB1 := Lib.hid hb1
  clear hb1
  go_wp2_with fail
  refine (H1.out _ (HG.out.below HB1.out)).mono ?_
  rintro e w2 ⟨b, rfl, _, _, _, hb2⟩
  have HB2 := Lib.hid (HB1.out.trans (hb2.mono HB1.out.size))
  clear hb2
  go_wp2
  go_ret
  exact ⟨rfl, HB2.out⟩
set_option maxHeartbeats 8000000 in
set_option maxRecDepth 100000 in
theorem blanks_ok (s : ByteArray) (d : Int) (w : World) (hG : GlobT w) (h : s.size ≤ 1000) {ts : List Tok} (ht : toks s.data.toList = .ok ts) : Calls Tryz.prog 8 #[.string s, .int .i64 d] w (LawF w) := by
  have H0 := Lib.hid (alive_yes w hG)
  have g1 : decide (1000 < (s.size : Int)) = false := by simp; omega
  have g1' : decide (1000 < s.size) = false := by simp; omega
  have HG := Lib.hid hG
  have H1 := Lib.hid (fun (W : World) (hW : GlobT W) => tokens_ok W hW.s (by omega) ht)
  obtain ⟨n, hn⟩ : ∃ n, n = ts.length := ⟨_, rfl⟩
  have HN := Lib.hid hn
  have HT := Lib.hid ht
  clear hG ht hn
  go_enter Tryz.func8, Tryz.ntmps8
  go_wp2_with fail
  with_reducible refine (H0.out).mono ?_
  rintro e w1 ⟨rfl, hb1⟩
  have HB1 := Lib.hid hb1
  clear hb1
  go_wp2_with fail
  refine (H1.out _ (HG.out.below HB1.out)).mono ?_
  rintro e w2 ⟨g, cap, rfl, hn0, hn1, ho, hb2⟩
  have HO2 := Lib.hid ho
  rw [← HN.out] at hn0 hn1 ⊢
  have HB2 := Lib.hid (HB1.out.trans (hb2.mono HB1.out.size))
  have HG2 := Lib.hid (HG.out.below HB2.out)
  clear ho hb2
  go_wp2_with fail
  go_loop [7, 8] (fun x i => BlRel ts n x i) (fun _ i => n - (intOf i).toNat)
  case atStart => exact ⟨0, Nat.zero_le _, rfl, fun t ht => by simp at ht, rfl, by simp [blkL, tabL]⟩
  case round =>
    obtain ⟨k, hk, rfl, hno, rfl, hwl⟩ := hrel
    have HNO := Lib.hid hno
    clear hno
    by_cases hlt : k < n
    · have hkt : k < ts.length := by rw [← HN.out]; exact hlt
      have hget := List.getElem?_eq_getElem hkt
      obtain ⟨c0, c1, c2⟩ := tok_cells HO2.out hget
      have hd1 : decide (k < n) = true := by simp; omega
      have hsn : blkL (ts.take (k + 1)) = blkL (ts.take k) ++ (ts[k].text ++ [9, 47, 47, 32, 41, 10, 32]) := by
        rw [List.take_succ_eq_append_getElem hkt, blkL, blkL, tabL_snoc]
        simp
      have htk : ts.take (k + 1) = ts.take k ++ [ts[k]] := List.take_succ_eq_append_getElem hkt
      have HSN := Lib.hid hsn
      have HTK := Lib.hid htk
      have hpl := (good_at (good_toks HT.out) k _ hget).2.1
      rw [size_list] at hpl
      have htl : ts[k].text.length ≤ 1000 := by
        have h1 : ts[k].text.length ≤ (full ts[k]).length := by
          unfold full
          split
          · simp; omega
          · exact Nat.le_refl _
        omega
      clear hsn htk hget hpl
      by_cases hk3 : ts[k].kind = 3
      · have q3 : ((ts[k].kind : Int) == 3) = true := by rw [hk3]; rfl
        clear hk3
        generalize ts[k] = t at *
        clear hkt
        go_wp2
        go_ret
        exact ⟨rfl, HB2.out⟩
      · have q3 : ((ts[k].kind : Int) == 3) = false := by rw [beq_eq_false_iff_ne]; omega
        have HK3 := Lib.hid hk3
        have q4 : decide (ts[k].kind = 3) = false := by simpa using hk3
        generalize ts[k] = t at *
        clear hkt
        obtain ⟨X, hX⟩ : ∃ X : ByteArray, X = ⟨(blkL (ts.take k)).toArray⟩ := ⟨_, rfl⟩
        have HXL := Lib.hid (show X.data.toList = blkL (ts.take k) by rw [hX])
        rw [← hX]
        have hXs : X.size ≤ k * 1007 + 6 := by rw [← size_list, HXL.out]; exact hwl
        have htbs : (⟨t.text.toArray⟩ : ByteArray).size ≤ 1000 := by rw [← size_list]; exact htl
        have HWL := Lib.hid (show (blkL (ts.take (k + 1))).length ≤ (k + 1) * 1007 + 6 by rw [HSN.out]; simp only [List.length_append, List.length_cons, List.length_nil]; omega)
        have hov : ¬ 9223372036854775807 < X.size + t.text.length + 7 := by omega
        have hov' : ¬ 9223372036854775807 < X.size + t.text.length := by omega
        clear hX hwl
        have HWX := Lib.hid (show (X ++ ⟨t.text.toArray⟩ ++ ⟨#[9, 47, 47, 32, 41, 10, 32]⟩ : ByteArray) = ⟨(blkL (ts.take (k + 1))).toArray⟩ from mk_listX _ _ (by rw [HSN.out]; simp [HXL.out]))
        go_wp2
        go_round
        case rel => exact ⟨k + 1, by omega, by rw [HWX.out], fun u hu => by
          rw [HTK.out] at hu
          rcases List.mem_append.1 hu with h1 | h1
          · exact HNO.out u h1
          · rw [List.mem_singleton.1 h1]; exact HK3.out, by go_num, HWL.out⟩
        case measure => simp [intOf]; omega
    · obtain rfl : k = n := by omega
      have hd1 : decide (k < k) = false := by simp
      have htk : ts.take k = ts := by rw [HN.out]; exact List.take_length
      have hno := HNO.out
      rw [htk] at hno ⊢
      obtain ⟨ms, hms, hTw⟩ := blk_toks HT.out hno
      have hbl := blk_len HT.out hno
      obtain ⟨X, hX⟩ : ∃ X : ByteArray, X = ⟨(blkL ts).toArray⟩ := ⟨_, rfl⟩
      have hXL : X.data.toList = blkL ts := by rw [hX]
      rw [← hX]
      have hXs : X.size ≤ 65536 := by rw [← size_list, hXL]; rw [size_list] at hbl; omega
      clear hX hbl htk hno
      have HR := Lib.hid (fun D : Nat => rel_parse (D := D) HT.out hms hTw)
      rw [← hXL] at HR
      clear hms hTw hXL
      by_cases hdd : 1 ≤ d ∧ d ≤ 64
      · obtain ⟨D, rfl⟩ : ∃ D : Nat, d = (D : Int) := ⟨d.toNat, by omega⟩
        have hR := HR.out D
        have H3 := Lib.hid (fun (W : World) (hW : GlobT W) => parse_any (s := s) (D := D) W hW.s (by omega) (by omega) (by omega))
        have H4 := Lib.hid (fun (W : World) (hW : GlobT W) => parse_any (s := X) (D := D) W hW.s (by omega) (by omega) (by omega))
        cases hp : parseX D s.data.toList with
        | ok e0 r0 =>
          cases hq : parseX D X.data.toList with
          | er c q => rw [hp, hq] at hR; exact hR.elim
          | ok x0 r1 =>
            rw [hp, hq] at hR
            rw [hp] at H3
            rw [hq] at H4
            have HBX := Lib.hid hR.1
            clear hp hq hR
            go_wp2_with fail
            refine (H3.out _ HG2.out).mono ?_
            rintro e w3 ⟨o3, nm3, n3, A3, ll3, cap3, p3, rfl, hC, hb3⟩
            have HB3 := Lib.hid (HB2.out.trans (hb3.mono HB2.out.size))
            have HC3 := Lib.hid hC
            clear hb3 hC
            go_wp2_with fail
            refine calls_gen (P := fun W => At5 W w3.heap.size 0 ⟨o3, nm3, n3, A3, ll3, cap3, p3⟩ e0 (fun j => j < w3.heap.size) ∧ Below w.heap.size w W) ⟨(Box.new w3 _ _ _ _ _).at5 (v := ⟨o3, nm3, n3, A3, ll3, cap3, p3⟩) ((HC3.out.wide (fun j _ hj => hj.2)).alloc _), HB3.out.alloc HB3.out.size _⟩ ?_
            rintro W ⟨hE, hB⟩
            refine (H4.out _ (HG.out.below hB)).mono ?_
            rintro e w4 ⟨o4, nm4, n4, A4, ll4, cap4, p4, rfl, hC, hb4⟩
            have HE4 := Lib.hid (hE.below hb4)
            have HB4 := Lib.hid (hB.trans (hb4.mono hB.size))
            have HC4 := Lib.hid hC
            clear hE hB hb4 hC HC3 HB3
            go_wp2_with fail
            refine (num_nil _).mono ?_
            rintro e w5 ⟨rfl, rfl⟩
            go_wp2_with fail
            refine (num_nil _).mono ?_
            rintro e w5 ⟨rfl, rfl⟩
            have ⟨hlE, hE0, hE1, hE2, hE3, hE4, _⟩ := HE4.out
            simp only [Nat.zero_add] at hE1 hE2 hE3 hE4
            go_wp2_with fail
            refine (same_any e0 x0 _ _ _ _ _ (HE4.out.hs.alloc _) (HC4.out.alloc _)).mono ?_
            rintro e w6 ⟨rfl, hb6⟩
            have HB6 := Lib.hid ((HB4.out.alloc HB4.out.size _).trans (hb6.mono (by simp; have := HB4.out.size; omega)))
            rw [decide_eq_true HBX.out]
            clear hb6
            go_wp2
            go_ret
            exact ⟨rfl, HB6.out⟩
        | er c q =>
          cases hq : parseX D X.data.toList with
          | ok x0 r1 => rw [hp, hq] at hR; exact hR.elim
          | er c' q' =>
            rw [hp, hq] at hR
            obtain rfl : c = c' := hR
            rw [hp] at H3
            rw [hq] at H4
            clear hp hq
            go_wp2_with fail
            refine (H3.out _ HG2.out).mono ?_
            rintro e w3 ⟨b3, rfl, _, hA, hb3⟩
            have HB3 := Lib.hid (HB2.out.trans (hb3.mono HB2.out.size))
            have HA3 := Lib.hid hA
            clear hb3 hA
            go_wp2_with fail
            refine calls_gen (P := fun W => AtE W b3 q c ∧ Below w.heap.size w W) ⟨HA3.out.alloc _, HB3.out.alloc HB3.out.size _⟩ ?_
            rintro W ⟨hA, hB⟩
            refine (H4.out _ (HG.out.below hB)).mono ?_
            rintro e w4 ⟨b4, rfl, _, hA4, hb4⟩
            have HA := Lib.hid (hA.below hb4)
            have HA4 := Lib.hid hA4
            have HB4 := Lib.hid (hB.trans (hb4.mono hB.size))
            clear hA hB hb4 hA4 HA3 HB3
            go_wp2_with fail
            refine calls_gen (P := fun W => AtE W b3 q c ∧ AtE W b4 q' c ∧ Below w.heap.size w W) ⟨HA.out.alloc _, HA4.out.alloc _, HB4.out.alloc HB4.out.size _⟩ ?_
            rintro W ⟨hA, hA4, hB⟩
            refine (num_at _ _ _ W (HG.out.below hB).s.glob hA).mono ?_
            rintro e w5 ⟨rfl, hb5⟩
            have HA5 := Lib.hid (hA4.below hb5)
            have HB5 := Lib.hid (hB.trans (hb5.mono hB.size))
            clear hA hA4 hB hb5 HA HA4 HB4
            go_wp2_with fail
            refine (num_at _ _ _ w5 (HG.out.below HB5.out).s.glob HA5.out).mono ?_
            rintro e w6 ⟨rfl, hb6⟩
            have HB6 := Lib.hid (HB5.out.trans (hb6.mono HB5.out.size))
            clear hb6
            go_wp2
            go_ret
            exact ⟨rfl, HB6.out⟩
      · have hnd : d < 1 ∨ 64 < d := by omega
        have H3 := Lib.hid (fun (W : World) => parse_bad s d W hnd)
        have H4 := Lib.hid (fun (W : World) => parse_bad X d W hnd)
        clear hdd
        go_wp2_with fail
        refine (H3.out _).mono ?_
        rintro e w3 ⟨rfl, hb3⟩
        have HB3 := Lib.hid (HB2.out.trans (hb3.mono HB2.out.size))
        clear hb3
        go_wp2_with fail
        refine calls_gen (P := fun W => Below w.heap.size w W) (HB3.out.alloc HB3.out.size _) ?_
        rintro W hB
        refine (H4.out _).mono ?_
        rintro e w4 ⟨rfl, hb4⟩
        have HB4 := Lib.hid (hB.trans (hb4.mono hB.size))
        clear hB hb4 HB3
        go_wp2_with fail
        refine calls_gen (P := fun W => Below w.heap.size w W) (HB4.out.alloc HB4.out.size _) ?_
        rintro W hB
        refine (num_errno _ W (HG.out.below hB).s.glob).mono ?_
        rintro e w5 ⟨rfl, hb5⟩
        have HB5 := Lib.hid (hB.trans (hb5.mono hB.size))
        clear hB hb5 HB4
        go_wp2_with fail
        refine (num_errno _ w5 (HG.out.below HB5.out).s.glob).mono ?_
        rintro e w6 ⟨rfl, hb6⟩
        have HB6 := Lib.hid (HB5.out.trans (hb6.mono HB5.out.size))
        clear hb6
        go_wp2
        go_ret
        exact ⟨rfl, HB6.out⟩
theorem blanks_yes (s : ByteArray) (d : Int) (w : World) (hG : GlobT w) (hs : s.size ≤ 140737488355328) : Calls Tryz.prog 8 #[.string s, .int .i64 d] w (LawF w) := by
  by_cases h : 1000 < s.size
  · exact blanks_long s d w hG hs h
  · cases ht : toks s.data.toList with
    | error x => obtain ⟨x, p⟩ := x; exact blanks_er s d w hG (by omega) ht
    | ok ts => exact blanks_ok s d w hG (by omega) ht
end Go.Proofs.YtbekheibdnkpdaaGreatDoor
