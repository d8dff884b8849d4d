/-
  Chains, walked.
-/
import Derived.Test.YtodijgndbjfbgaaGreatDoorWC
import Derived.Test.YtodijgndbjfbgaaGreatDoorQQ
import Derived.Deep.LoopGhost
namespace Go.Proofs.YtodijgndbjfbgaaGreatDoor
open Go.RowKit

/-- What a chain's rounds keep: the left side so far in its box, or an error. -/
def ChEr (rb : Nat) (res : PR) (w : World) (err : Value) (wr : World) : Prop :=
  ∃ c q b, err = .iface 101 (.pointer (some ⟨b, 0, none⟩)) ∧ res = .er c q ∧ w.heap.size < b ∧ AtE wr b q c ∧ Box wr w.heap.size (.string ⟨#[]⟩) (.string ⟨#[]⟩) (.int .i64 0) (.slice none 0 0) (.int .i64 0) ∧ Fr w.heap.size rb w wr
def ChRel (xb rb lv k : Nat) (F : List Tok → PR) (res : PR) (w : World) (eb : Nat) (gk : Nat) (err : Value) (wr : World) : Prop :=
  (∃ e r o nm n A ll cap p, err = .nilIface ∧ res = chainF k F r.length e r ∧ gk = r.length ∧ 0 < r.length ∧ HS wr 57 (fun j => w.heap.size < j ∧ j ≠ eb) e (exC o nm n A ll cap p) ∧ Box wr eb (.string o) (.string nm) (.int .i64 n) (.slice A ll cap) (.int .i64 p) ∧ Box wr w.heap.size (.string ⟨#[]⟩) (.string ⟨#[]⟩) (.int .i64 0) (.slice none 0 0) (.int .i64 0) ∧ XR wr xb rb r lv ∧ Fr w.heap.size rb w wr) ∨ ChEr rb res w err wr
set_option maxHeartbeats 4000000 in
set_option maxRecDepth 100000 in
theorem chain_minus {lv k : Nat} {F : List Tok → PR} (hR : RC 183 F lv) (hS : Shr F) (hk : k < 8) {xb rb : Nat} {us : List Tok} (w : World) (h : XR w xb rb us lv) : Calls Tryz.prog 175 #[.pointer (some ⟨xb, 0, none⟩), .int .i64 (k : Int), .func (.func 183) #[.pointer (some ⟨xb, 0, none⟩)] #[]] w (PP xb rb lv (chainX k F us) w) := by
  have hx := h.ltx
  have hr := h.ltr
  have HR := Lib.hid hR
  have HSH := Lib.hid hS
  have HX := Lib.hid h
  obtain ⟨res, hres⟩ : ∃ res, res = chainX k F us := ⟨_, rfl⟩
  rw [← hres]
  have HRES := Lib.hid hres
  clear h hR hS hres
  go_enter Tryz.func175, Tryz.ntmps175
  go_wp2_with fail
  refine calls_gen (P := fun W => XR W xb rb us lv ∧ Box W w.heap.size (.string ⟨#[]⟩) (.string ⟨#[]⟩) (.int .i64 0) (.slice none 0 0) (.int .i64 0) ∧ Fr w.heap.size rb w W) ⟨HX.out.alloc _, Box.new _ _ _ _ _ _, (Fr.refl _ _ _).alloc (Nat.le_refl _) _⟩ ?_
  rintro W ⟨hX, hB, hF⟩
  refine (HR.out xb rb W us hX).mono ?_
  intro e w1 hp
  have hs := hB.lt
  cases hfu : F us with
  | er c q =>
    rw [hfu] at hp
    obtain ⟨b, rfl, hbb, hA, hF1⟩ := hp
    have HE : Hid (ChEr rb res w (.iface 101 (.pointer (some ⟨b, 0, none⟩))) (w1.alloc (.cells #[.string ⟨#[]⟩, .string ⟨#[]⟩, .int .i64 0, .slice none 0 0, .int .i64 0] 57))) :=
      Lib.hid (⟨c, q, b, rfl, by rw [HRES.out, chainX, hfu]; rfl, by omega, hA.alloc _, (hB.fr hF1 (by omega)).alloc _, (hF.on hF.size hF1).alloc (by have := hF.size; have := hF1.size; omega) _⟩)
    have hs1 : w.heap.size < w1.heap.size := (hB.fr hF1 (by omega)).lt
    clear hA hF1 hbb hfu hX hB hF
    go_wp2
    go_loopg [9] 0 (fun _ err wr => ChEr rb res w err wr)
    case atStart => exact HE.out
    case round =>
      clear HE
      obtain ⟨c, q, b, rfl, hre, hb, hA, hB, hF⟩ := hrel
      obtain ⟨b0, b1, b2, b3, b4⟩ := hB.cells
      obtain ⟨z0, z1, z2, z3, z4⟩ := hB.frozen
      have hs2 := hB.lt
      have HB := Lib.hid hB
      have HA := Lib.hid hA
      have HF := Lib.hid hF
      have HRE := Lib.hid hre
      clear hB hA hF hre
      go_wp2
      obtain ⟨d0, d1, d2, d3, d4⟩ := (HB.out.set5 (.string ⟨#[]⟩) (.string ⟨#[]⟩) (.int .i64 0) (.slice none 0 0) (.int .i64 0)).cells
      rw [HRE.out]
      refine bodyPost_ret (v := .tuple #[.agg #[.string ⟨#[]⟩, .string ⟨#[]⟩, .int .i64 0, .slice none 0 0, .int .i64 0], .iface 101 (.pointer (some ⟨b, 0, none⟩))]) (by simp [results, Tryz.results175, go_sem, d0, d1, d2, d3, d4]) rfl ⟨b, rfl, by omega, ?_, ?_⟩
      · exact HA.out.far5 (by omega) _ _ _ _ _
      · exact HF.out.set5 (Nat.le_refl _) _ _ _ _ _
  | ok x r =>
    rw [hfu] at hp
    obtain ⟨o, nm, n, A, ll, cap, p, rfl, hC, hX1, hF1⟩ := hp
    have hne := (List.length_pos_iff.2 hX1.fine.ne)
    have HE : Hid (ChRel xb rb lv k F res w w1.heap.size r.length .nilIface (w1.alloc (.cells #[.string o, .string nm, .int .i64 n, .slice A ll cap, .int .i64 p] 57))) :=
      Lib.hid (.inl ⟨x, r, o, nm, n, A, ll, cap, p, rfl, by rw [HRES.out, chainX, hfu]; rfl, rfl, hne, (hC.wide (fun j _ hj => by unfold Rg at hj; omega)).alloc _, Box.new _ _ _ _ _ _, (hB.fr hF1 (by omega)).alloc _, hX1.alloc _, (hF.on hF.size hF1).alloc (by have := hF.size; have := hF1.size; omega) _⟩)
    have hs1 : w.heap.size < w1.heap.size := (hB.fr hF1 (by omega)).lt
    clear hC hX1 hF1 hfu hX hB hF hne
    go_wp2
    go_loopg [9] r.length (fun gk err wr => ChRel xb rb lv k F res w w1.heap.size gk err wr)
    case atStart => exact HE.out
    case round =>
      clear HE
      rcases hrel with ⟨e, r, o, nm, n, A, ll, cap, p, rfl, hch, rfl, hpos, hH, hE, hB, hX, hF⟩ | hrel
      rotate_left
      · obtain ⟨c, q, b, rfl, hre, hb, hA, hB, hF⟩ := hrel
        obtain ⟨b0, b1, b2, b3, b4⟩ := hB.cells
        obtain ⟨z0, z1, z2, z3, z4⟩ := hB.frozen
        have hs2 := hB.lt
        have HB := Lib.hid hB
        have HA := Lib.hid hA
        have HF := Lib.hid hF
        have HRE := Lib.hid hre
        clear hB hA hF hre
        go_wp2
        obtain ⟨d0, d1, d2, d3, d4⟩ := (HB.out.set5 (.string ⟨#[]⟩) (.string ⟨#[]⟩) (.int .i64 0) (.slice none 0 0) (.int .i64 0)).cells
        rw [HRE.out]
        refine bodyPost_ret (v := .tuple #[.agg #[.string ⟨#[]⟩, .string ⟨#[]⟩, .int .i64 0, .slice none 0 0, .int .i64 0], .iface 101 (.pointer (some ⟨b, 0, none⟩))]) (by simp [results, Tryz.results175, go_sem, d0, d1, d2, d3, d4]) rfl ⟨b, rfl, by omega, ?_, ?_⟩
        · exact HA.out.far5 (by omega) _ _ _ _ _
        · exact HF.out.set5 (Nat.le_refl _) _ _ _ _ _
        
      have HCH := Lib.hid hch
      have hxw := hX.ltx
      have hrw := hX.ltr
      have hew := hE.lt
      have hbw := hB.lt
      by_cases hsg : sg k (hd r) = true
      rotate_left
      · have hsg' : sg k (hd r) = false := by simpa using hsg
        have HRE := Lib.hid (hch.trans (chain_stop hsg'))
        have HN := Lib.hid (sign_no wr hX k hk hsg')
        have HE2 := Lib.hid hE
        have HB2 := Lib.hid hB
        have HX2 := Lib.hid hX
        have HH2 := Lib.hid hH
        have HF2 := Lib.hid hF
        clear hsg hsg' hch hE hB hX hH hF
        go_wp2_with fail
        with_reducible refine (HN.out).mono ?_
        rintro e' w3 ⟨rfl, hb3⟩
        have hB3 := HB2.out.below hb3
        have hE3 := HE2.out.below hb3
        obtain ⟨b0, b1, b2, b3, b4⟩ := hB3.cells
        obtain ⟨z0, z1, z2, z3, z4⟩ := hB3.frozen
        obtain ⟨e0, e1, e2, e3, e4⟩ := hE3.cells
        have hs3 := hB3.lt
        have hs4 := hE3.lt
        have HB3 := Lib.hid hB3
        have HX3 := Lib.hid (HX2.out.below hb3)
        have HH3 := Lib.hid (HH2.out.below hb3)
        have HF3 := Lib.hid (HF2.out.onB HF2.out.size hb3)
        clear hB3 hE3 hb3
        go_wp2
        obtain ⟨d0, d1, d2, d3, d4⟩ := (HB3.out.set5 (.string o) (.string nm) (.int .i64 n) (.slice A ll cap) (.int .i64 p)).cells
        rw [HRE.out]
        refine bodyPost_ret (v := .tuple #[.agg #[.string o, .string nm, .int .i64 n, .slice A ll cap, .int .i64 p], .nilIface]) (by simp [results, Tryz.results175, go_sem, d0, d1, d2, d3, d4]) rfl ⟨o, nm, n, A, ll, cap, p, rfl, ?_, ?_, ?_⟩
        · exact (HH3.out.far5S (by omega) _ _ _ _ _).wide (fun j hj hS => by simp at hj; unfold Rg; simp; omega)
        · exact HX3.out.set5 HB3.out (by omega) _ _ _ _ _
        · exact HF3.out.set5 (Nat.le_refl _) _ _ _ _ _
      have HSG := Lib.hid hsg
      have HY := Lib.hid (sign_yes wr hX k hsg)
      have HE2 := Lib.hid hE
      have HB2 := Lib.hid hB
      have HH2 := Lib.hid hH
      have HF2 := Lib.hid hF
      clear hsg hch hE hB hX hH hF
      go_wp2_with fail
      with_reducible refine (HY.out).mono ?_
      rintro e' w3 ⟨rfl, hX3, hF3⟩
      have HX3 := Lib.hid hX3
      have HE3 := Lib.hid (HE2.out.fr hF3 (by omega))
      have HB3 := Lib.hid (HB2.out.fr hF3 (by omega))
      have HH3 := Lib.hid (show HS w3 57 (fun j => w.heap.size < j ∧ j ≠ w1.heap.size ∧ j ≠ w3.heap.size) e (exC o nm n A ll cap p) from (HH2.out.frS hF3 (by omega)).wide (fun j hj hS => by omega))
      have HF3 := Lib.hid (HF2.out.on HF2.out.size hF3)
      clear hX3 hF3
      go_wp2_with fail
      refine calls_gen (P := fun W2 => XR W2 xb rb r.tail lv ∧ Box W2 w1.heap.size (.string o) (.string nm) (.int .i64 n) (.slice A ll cap) (.int .i64 p) ∧ Box W2 w.heap.size (.string ⟨#[]⟩) (.string ⟨#[]⟩) (.int .i64 0) (.slice none 0 0) (.int .i64 0) ∧ Box W2 w3.heap.size (.string ⟨#[]⟩) (.string ⟨#[]⟩) (.int .i64 0) (.slice none 0 0) (.int .i64 0) ∧ HS W2 57 (fun j => w.heap.size < j ∧ j ≠ w1.heap.size ∧ j ≠ w3.heap.size) e (exC o nm n A ll cap p) ∧ Fr w.heap.size rb w W2) ⟨HX3.out.alloc _, HE3.out.alloc _, HB3.out.alloc _, Box.new _ _ _ _ _ _, HH3.out.alloc _, HF3.out.alloc HF3.out.size _⟩ ?_
      rintro W2 ⟨hX4, hE4, hB4, hD4, hH4, hF4⟩
      have hs4 := hE4.lt
      have hs5 := HE3.out.lt
      have hs6 := hD4.lt
      refine (HR.out xb rb W2 r.tail hX4).mono ?_
      intro e' w4 hp
      cases hft : F r.tail with
      | er c q =>
        rw [hft] at hp
        obtain ⟨b, rfl, hbb, hA, hF5⟩ := hp
        have hE5 := hE4.fr hF5 (by omega)
        have hB5 := hB4.fr hF5 (by omega)
        have hD5 := hD4.fr hF5 (by omega)
        obtain ⟨e0, e1, e2, e3, e4⟩ := hE5.cells
        obtain ⟨y0, y1, y2, y3, y4⟩ := hE5.frozen
        obtain ⟨q0, q1, q2, q3, q4⟩ := hD5.cells
        obtain ⟨x0, x1, x2, x3, x4⟩ := hD5.frozen
        have hs7 := hE5.lt
        have hs8 := hD5.lt
        have hne1 : w1.heap.size ≠ w3.heap.size := by omega
        have hne2 : w3.heap.size ≠ w1.heap.size := by omega
        have HE5 := Lib.hid hE5
        have HB5 := Lib.hid hB5
        have HD5 := Lib.hid hD5
        have HA5 := Lib.hid hA
        have HF5 := Lib.hid (hF4.on hF4.size hF5)
        have HRE := Lib.hid (HCH.out.trans (chain_er HSG.out hft))
        clear hE5 hB5 hD5 hA hF5 hX4 hE4 hB4 hD4 hH4 hF4 hft
        go_wp2_with fail
        refine calls_gen (P := fun W3 => AtE W3 b q c ∧ Box W3 w.heap.size (.string ⟨#[]⟩) (.string ⟨#[]⟩) (.int .i64 0) (.slice none 0 0) (.int .i64 0) ∧ Box W3 w1.heap.size (.string o) (.string nm) (.int .i64 n) (.slice A ll cap) (.int .i64 p) ∧ Fr w.heap.size rb w W3) ⟨HA5.out.far5 (by omega) _ _ _ _ _, HB5.out.far5 (by omega) _ _ _ _ _, HE5.out.far5 hne1 _ _ _ _ _, HF5.out.set5 (by omega) _ _ _ _ _⟩ ?_
        rintro W3 ⟨hA6, hB6, hE6, hF6⟩
        refine (joined_er _ _ _ _ _ _ _ _ _ _ _ _ _ _ _ _ _ W3).mono ?_
        rintro e'' w5 ⟨rfl, hb6⟩
        have hE7 := hE6.below hb6
        obtain ⟨e0, e1, e2, e3, e4⟩ := hE7.cells
        obtain ⟨y0, y1, y2, y3, y4⟩ := hE7.frozen
        have hs9 := hE7.lt
        have HRL : Hid (ChRel xb rb lv k F res w w1.heap.size 0 (.iface 101 (.pointer (some ⟨b, 0, none⟩))) (((((w5.setCell ⟨w1.heap.size, 0, none⟩ (.string ⟨#[]⟩)).setCell ⟨w1.heap.size, 1, none⟩ (.string ⟨#[]⟩)).setCell ⟨w1.heap.size, 2, none⟩ (.int .i64 0)).setCell ⟨w1.heap.size, 3, none⟩ (.slice none 0 0)).setCell ⟨w1.heap.size, 4, none⟩ (.int .i64 0))) :=
          Lib.hid (.inr ⟨c, q, b, rfl, HRE.out, by omega, (hA6.below hb6).far5 (by omega) _ _ _ _ _, (hB6.below hb6).far5 (by omega) _ _ _ _ _, (hF6.onB hF6.size hb6).set5 (by omega) _ _ _ _ _⟩)
        clear hE7 hA6 hB6 hE6 hF6 hb6
        go_wp2
        go_roundg 0
        case measure => exact hpos
        case rel => exact HRL.out
      | ok y r2 =>
        rw [hft] at hp
        obtain ⟨o2, nm2, n2, A2, ll2, cap2, p2, rfl, hC, hX5, hF5⟩ := hp
        have hE5 := hE4.fr hF5 (by omega)
        have hB5 := hB4.fr hF5 (by omega)
        have hD5 := hD4.fr hF5 (by omega)
        obtain ⟨e0, e1, e2, e3, e4⟩ := hE5.cells
        obtain ⟨y0, y1, y2, y3, y4⟩ := hE5.frozen
        obtain ⟨q0, q1, q2, q3, q4⟩ := hD5.cells
        obtain ⟨x0, x1, x2, x3, x4⟩ := hD5.frozen
        have hs7 := hE5.lt
        have hs8 := hD5.lt
        have hne1 : w1.heap.size ≠ w3.heap.size := by omega
        have hne2 : w3.heap.size ≠ w1.heap.size := by omega
        have HE5 := Lib.hid hE5
        have HB5 := Lib.hid hB5
        have HD5 := Lib.hid hD5
        have HX5 := Lib.hid hX5
        have HH5 := Lib.hid (hH4.frS hF5 (by omega))
        have HC5 := Lib.hid (show HS w4 57 (fun j => w.heap.size < j ∧ j ≠ w1.heap.size ∧ j ≠ w3.heap.size) y (exC o2 nm2 n2 A2 ll2 cap2 p2) from hC.wide (fun j _ hj => by unfold Rg at hj; omega))
        have HF5 := Lib.hid (hF4.on hF4.size hF5)
        obtain ⟨hgo, hlt⟩ := chain_go (k := k) (e := e) HSH.out HSG.out hft
        have HRE := Lib.hid (HCH.out.trans hgo)
        have HLT := Lib.hid hlt
        clear hE5 hB5 hD5 hC hF5 hX5 hX4 hE4 hB4 hD4 hH4 hF4 hft hgo hlt
        go_wp2_with fail
        refine calls_gen (P := fun W3 => XR W3 xb rb r2 lv ∧ Box W3 w.heap.size (.string ⟨#[]⟩) (.string ⟨#[]⟩) (.int .i64 0) (.slice none 0 0) (.int .i64 0) ∧ Box W3 w1.heap.size (.string o) (.string nm) (.int .i64 n) (.slice A ll cap) (.int .i64 p) ∧ HS W3 57 (fun j => w.heap.size < j ∧ j ≠ w1.heap.size ∧ j ≠ w3.heap.size) e (exC o nm n A ll cap p) ∧ HS W3 57 (fun j => w.heap.size < j ∧ j ≠ w1.heap.size ∧ j ≠ w3.heap.size) y (exC o2 nm2 n2 A2 ll2 cap2 p2) ∧ Fr w.heap.size rb w W3 ∧ w3.heap.size < W3.heap.size) ⟨HX5.out.set5 HD5.out (by omega) _ _ _ _ _, HB5.out.far5 (by omega) _ _ _ _ _, HE5.out.far5 hne1 _ _ _ _ _, HH5.out.far5S (by omega) _ _ _ _ _, HC5.out.far5S (by omega) _ _ _ _ _, HF5.out.set5 (by omega) _ _ _ _ _, by simpa using hs8⟩ ?_
        rintro W3 ⟨hX6, hB6, hE6, hH6, hC6, hF6, hs9⟩
        have hs10 := hE6.lt
        refine (joined_ok (hd r).text W3 hH6 hC6 (fun j hj => by omega)).mono ?_
        rintro e'' w5 ⟨g, rfl, hJ, hb6⟩
        have hE7 := hE6.below hb6
        obtain ⟨e0, e1, e2, e3, e4⟩ := hE7.cells
        obtain ⟨y0, y1, y2, y3, y4⟩ := hE7.frozen
        have hs11 := hE7.lt
        have HRL : Hid (ChRel xb rb lv k F res w w1.heap.size r2.length .nilIface (((((w5.setCell ⟨w1.heap.size, 0, none⟩ (.string ⟨(hd r).text.toArray⟩)).setCell ⟨w1.heap.size, 1, none⟩ (.string ⟨#[]⟩)).setCell ⟨w1.heap.size, 2, none⟩ (.int .i64 0)).setCell ⟨w1.heap.size, 3, none⟩ (.slice (some ⟨g, 0, none⟩) 2 2)).setCell ⟨w1.heap.size, 4, none⟩ (.int .i64 p))) :=
          Lib.hid (.inl ⟨.bin (hd r).text e y e.pos, r2, _, _, _, _, _, _, _, rfl, HRE.out, rfl, List.length_pos_iff.2 hX6.fine.ne, (hJ.far5S (by omega) _ _ _ _ _).wide (fun j _ hj => ⟨hj.1, hj.2.1⟩), hE7.set5 _ _ _ _ _, (hB6.below hb6).far5 (by omega) _ _ _ _ _, (hX6.below hb6).set5 hE7 (by omega) _ _ _ _ _, (hF6.onB hF6.size hb6).set5 (by omega) _ _ _ _ _⟩)
        clear hE7 hJ hB6 hE6 hF6 hb6 hX6 hH6 hC6
        go_wp2
        go_roundg r2.length
        case measure => exact HLT.out
        case rel => exact HRL.out
set_option maxHeartbeats 4000000 in
set_option maxRecDepth 100000 in
theorem chain_product {lv k : Nat} {F : List Tok → PR} (hR : RC 182 F lv) (hS : Shr F) (hk : k < 8) {xb rb : Nat} {us : List Tok} (w : World) (h : XR w xb rb us lv) : Calls Tryz.prog 175 #[.pointer (some ⟨xb, 0, none⟩), .int .i64 (k : Int), .func (.func 182) #[.pointer (some ⟨xb, 0, none⟩)] #[]] w (PP xb rb lv (chainX k F us) w) := by
  have hx := h.ltx
  have hr := h.ltr
  have HR := Lib.hid hR
  have HSH := Lib.hid hS
  have HX := Lib.hid h
  obtain ⟨res, hres⟩ : ∃ res, res = chainX k F us := ⟨_, rfl⟩
  rw [← hres]
  have HRES := Lib.hid hres
  clear h hR hS hres
  go_enter Tryz.func175, Tryz.ntmps175
  go_wp2_with fail
  refine calls_gen (P := fun W => XR W xb rb us lv ∧ Box W w.heap.size (.string ⟨#[]⟩) (.string ⟨#[]⟩) (.int .i64 0) (.slice none 0 0) (.int .i64 0) ∧ Fr w.heap.size rb w W) ⟨HX.out.alloc _, Box.new _ _ _ _ _ _, (Fr.refl _ _ _).alloc (Nat.le_refl _) _⟩ ?_
  rintro W ⟨hX, hB, hF⟩
  refine (HR.out xb rb W us hX).mono ?_
  intro e w1 hp
  have hs := hB.lt
  cases hfu : F us with
  | er c q =>
    rw [hfu] at hp
    obtain ⟨b, rfl, hbb, hA, hF1⟩ := hp
    have HE : Hid (ChEr rb res w (.iface 101 (.pointer (some ⟨b, 0, none⟩))) (w1.alloc (.cells #[.string ⟨#[]⟩, .string ⟨#[]⟩, .int .i64 0, .slice none 0 0, .int .i64 0] 57))) :=
      Lib.hid (⟨c, q, b, rfl, by rw [HRES.out, chainX, hfu]; rfl, by omega, hA.alloc _, (hB.fr hF1 (by omega)).alloc _, (hF.on hF.size hF1).alloc (by have := hF.size; have := hF1.size; omega) _⟩)
    have hs1 : w.heap.size < w1.heap.size := (hB.fr hF1 (by omega)).lt
    clear hA hF1 hbb hfu hX hB hF
    go_wp2
    go_loopg [9] 0 (fun _ err wr => ChEr rb res w err wr)
    case atStart => exact HE.out
    case round =>
      clear HE
      obtain ⟨c, q, b, rfl, hre, hb, hA, hB, hF⟩ := hrel
      obtain ⟨b0, b1, b2, b3, b4⟩ := hB.cells
      obtain ⟨z0, z1, z2, z3, z4⟩ := hB.frozen
      have hs2 := hB.lt
      have HB := Lib.hid hB
      have HA := Lib.hid hA
      have HF := Lib.hid hF
      have HRE := Lib.hid hre
      clear hB hA hF hre
      go_wp2
      obtain ⟨d0, d1, d2, d3, d4⟩ := (HB.out.set5 (.string ⟨#[]⟩) (.string ⟨#[]⟩) (.int .i64 0) (.slice none 0 0) (.int .i64 0)).cells
      rw [HRE.out]
      refine bodyPost_ret (v := .tuple #[.agg #[.string ⟨#[]⟩, .string ⟨#[]⟩, .int .i64 0, .slice none 0 0, .int .i64 0], .iface 101 (.pointer (some ⟨b, 0, none⟩))]) (by simp [results, Tryz.results175, go_sem, d0, d1, d2, d3, d4]) rfl ⟨b, rfl, by omega, ?_, ?_⟩
      · exact HA.out.far5 (by omega) _ _ _ _ _
      · exact HF.out.set5 (Nat.le_refl _) _ _ _ _ _
  | ok x r =>
    rw [hfu] at hp
    obtain ⟨o, nm, n, A, ll, cap, p, rfl, hC, hX1, hF1⟩ := hp
    have hne := (List.length_pos_iff.2 hX1.fine.ne)
    have HE : Hid (ChRel xb rb lv k F res w w1.heap.size r.length .nilIface (w1.alloc (.cells #[.string o, .string nm, .int .i64 n, .slice A ll cap, .int .i64 p] 57))) :=
      Lib.hid (.inl ⟨x, r, o, nm, n, A, ll, cap, p, rfl, by rw [HRES.out, chainX, hfu]; rfl, rfl, hne, (hC.wide (fun j _ hj => by unfold Rg at hj; omega)).alloc _, Box.new _ _ _ _ _ _, (hB.fr hF1 (by omega)).alloc _, hX1.alloc _, (hF.on hF.size hF1).alloc (by have := hF.size; have := hF1.size; omega) _⟩)
    have hs1 : w.heap.size < w1.heap.size := (hB.fr hF1 (by omega)).lt
    clear hC hX1 hF1 hfu hX hB hF hne
    go_wp2
    go_loopg [9] r.length (fun gk err wr => ChRel xb rb lv k F res w w1.heap.size gk err wr)
    case atStart => exact HE.out
    case round =>
      clear HE
      rcases hrel with ⟨e, r, o, nm, n, A, ll, cap, p, rfl, hch, rfl, hpos, hH, hE, hB, hX, hF⟩ | hrel
      rotate_left
      · obtain ⟨c, q, b, rfl, hre, hb, hA, hB, hF⟩ := hrel
        obtain ⟨b0, b1, b2, b3, b4⟩ := hB.cells
        obtain ⟨z0, z1, z2, z3, z4⟩ := hB.frozen
        have hs2 := hB.lt
        have HB := Lib.hid hB
        have HA := Lib.hid hA
        have HF := Lib.hid hF
        have HRE := Lib.hid hre
        clear hB hA hF hre
        go_wp2
        obtain ⟨d0, d1, d2, d3, d4⟩ := (HB.out.set5 (.string ⟨#[]⟩) (.string ⟨#[]⟩) (.int .i64 0) (.slice none 0 0) (.int .i64 0)).cells
        rw [HRE.out]
        refine bodyPost_ret (v := .tuple #[.agg #[.string ⟨#[]⟩, .string ⟨#[]⟩, .int .i64 0, .slice none 0 0, .int .i64 0], .iface 101 (.pointer (some ⟨b, 0, none⟩))]) (by simp [results, Tryz.results175, go_sem, d0, d1, d2, d3, d4]) rfl ⟨b, rfl, by omega, ?_, ?_⟩
        · exact HA.out.far5 (by omega) _ _ _ _ _
        · exact HF.out.set5 (Nat.le_refl _) _ _ _ _ _
        
      have HCH := Lib.hid hch
      have hxw := hX.ltx
      have hrw := hX.ltr
      have hew := hE.lt
      have hbw := hB.lt
      by_cases hsg : sg k (hd r) = true
      rotate_left
      · have hsg' : sg k (hd r) = false := by simpa using hsg
        have HRE := Lib.hid (hch.trans (chain_stop hsg'))
        have HN := Lib.hid (sign_no wr hX k hk hsg')
        have HE2 := Lib.hid hE
        have HB2 := Lib.hid hB
        have HX2 := Lib.hid hX
        have HH2 := Lib.hid hH
        have HF2 := Lib.hid hF
        clear hsg hsg' hch hE hB hX hH hF
        go_wp2_with fail
        with_reducible refine (HN.out).mono ?_
        rintro e' w3 ⟨rfl, hb3⟩
        have hB3 := HB2.out.below hb3
        have hE3 := HE2.out.below hb3
        obtain ⟨b0, b1, b2, b3, b4⟩ := hB3.cells
        obtain ⟨z0, z1, z2, z3, z4⟩ := hB3.frozen
        obtain ⟨e0, e1, e2, e3, e4⟩ := hE3.cells
        have hs3 := hB3.lt
        have hs4 := hE3.lt
        have HB3 := Lib.hid hB3
        have HX3 := Lib.hid (HX2.out.below hb3)
        have HH3 := Lib.hid (HH2.out.below hb3)
        have HF3 := Lib.hid (HF2.out.onB HF2.out.size hb3)
        clear hB3 hE3 hb3
        go_wp2
        obtain ⟨d0, d1, d2, d3, d4⟩ := (HB3.out.set5 (.string o) (.string nm) (.int .i64 n) (.slice A ll cap) (.int .i64 p)).cells
        rw [HRE.out]
        refine bodyPost_ret (v := .tuple #[.agg #[.string o, .string nm, .int .i64 n, .slice A ll cap, .int .i64 p], .nilIface]) (by simp [results, Tryz.results175, go_sem, d0, d1, d2, d3, d4]) rfl ⟨o, nm, n, A, ll, cap, p, rfl, ?_, ?_, ?_⟩
        · exact (HH3.out.far5S (by omega) _ _ _ _ _).wide (fun j hj hS => by simp at hj; unfold Rg; simp; omega)
        · exact HX3.out.set5 HB3.out (by omega) _ _ _ _ _
        · exact HF3.out.set5 (Nat.le_refl _) _ _ _ _ _
      have HSG := Lib.hid hsg
      have HY := Lib.hid (sign_yes wr hX k hsg)
      have HE2 := Lib.hid hE
      have HB2 := Lib.hid hB
      have HH2 := Lib.hid hH
      have HF2 := Lib.hid hF
      clear hsg hch hE hB hX hH hF
      go_wp2_with fail
      with_reducible refine (HY.out).mono ?_
      rintro e' w3 ⟨rfl, hX3, hF3⟩
      have HX3 := Lib.hid hX3
      have HE3 := Lib.hid (HE2.out.fr hF3 (by omega))
      have HB3 := Lib.hid (HB2.out.fr hF3 (by omega))
      have HH3 := Lib.hid (show HS w3 57 (fun j => w.heap.size < j ∧ j ≠ w1.heap.size ∧ j ≠ w3.heap.size) e (exC o nm n A ll cap p) from (HH2.out.frS hF3 (by omega)).wide (fun j hj hS => by omega))
      have HF3 := Lib.hid (HF2.out.on HF2.out.size hF3)
      clear hX3 hF3
      go_wp2_with fail
      refine calls_gen (P := fun W2 => XR W2 xb rb r.tail lv ∧ Box W2 w1.heap.size (.string o) (.string nm) (.int .i64 n) (.slice A ll cap) (.int .i64 p) ∧ Box W2 w.heap.size (.string ⟨#[]⟩) (.string ⟨#[]⟩) (.int .i64 0) (.slice none 0 0) (.int .i64 0) ∧ Box W2 w3.heap.size (.string ⟨#[]⟩) (.string ⟨#[]⟩) (.int .i64 0) (.slice none 0 0) (.int .i64 0) ∧ HS W2 57 (fun j => w.heap.size < j ∧ j ≠ w1.heap.size ∧ j ≠ w3.heap.size) e (exC o nm n A ll cap p) ∧ Fr w.heap.size rb w W2) ⟨HX3.out.alloc _, HE3.out.alloc _, HB3.out.alloc _, Box.new _ _ _ _ _ _, HH3.out.alloc _, HF3.out.alloc HF3.out.size _⟩ ?_
      rintro W2 ⟨hX4, hE4, hB4, hD4, hH4, hF4⟩
      have hs4 := hE4.lt
      have hs5 := HE3.out.lt
      have hs6 := hD4.lt
      refine (HR.out xb rb W2 r.tail hX4).mono ?_
      intro e' w4 hp
      cases hft : F r.tail with
      | er c q =>
        rw [hft] at hp
        obtain ⟨b, rfl, hbb, hA, hF5⟩ := hp
        have hE5 := hE4.fr hF5 (by omega)
        have hB5 := hB4.fr hF5 (by omega)
        have hD5 := hD4.fr hF5 (by omega)
        obtain ⟨e0, e1, e2, e3, e4⟩ := hE5.cells
        obtain ⟨y0, y1, y2, y3, y4⟩ := hE5.frozen
        obtain ⟨q0, q1, q2, q3, q4⟩ := hD5.cells
        obtain ⟨x0, x1, x2, x3, x4⟩ := hD5.frozen
        have hs7 := hE5.lt
        have hs8 := hD5.lt
        have hne1 : w1.heap.size ≠ w3.heap.size := by omega
        have hne2 : w3.heap.size ≠ w1.heap.size := by omega
        have HE5 := Lib.hid hE5
        have HB5 := Lib.hid hB5
        have HD5 := Lib.hid hD5
        have HA5 := Lib.hid hA
        have HF5 := Lib.hid (hF4.on hF4.size hF5)
        have HRE := Lib.hid (HCH.out.trans (chain_er HSG.out hft))
        clear hE5 hB5 hD5 hA hF5 hX4 hE4 hB4 hD4 hH4 hF4 hft
        go_wp2_with fail
        refine calls_gen (P := fun W3 => AtE W3 b q c ∧ Box W3 w.heap.size (.string ⟨#[]⟩) (.string ⟨#[]⟩) (.int .i64 0) (.slice none 0 0) (.int .i64 0) ∧ Box W3 w1.heap.size (.string o) (.string nm) (.int .i64 n) (.slice A ll cap) (.int .i64 p) ∧ Fr w.heap.size rb w W3) ⟨HA5.out.far5 (by omega) _ _ _ _ _, HB5.out.far5 (by omega) _ _ _ _ _, HE5.out.far5 hne1 _ _ _ _ _, HF5.out.set5 (by omega) _ _ _ _ _⟩ ?_
        rintro W3 ⟨hA6, hB6, hE6, hF6⟩
        refine (joined_er _ _ _ _ _ _ _ _ _ _ _ _ _ _ _ _ _ W3).mono ?_
        rintro e'' w5 ⟨rfl, hb6⟩
        have hE7 := hE6.below hb6
        obtain ⟨e0, e1, e2, e3, e4⟩ := hE7.cells
        obtain ⟨y0, y1, y2, y3, y4⟩ := hE7.frozen
        have hs9 := hE7.lt
        have HRL : Hid (ChRel xb rb lv k F res w w1.heap.size 0 (.iface 101 (.pointer (some ⟨b, 0, none⟩))) (((((w5.setCell ⟨w1.heap.size, 0, none⟩ (.string ⟨#[]⟩)).setCell ⟨w1.heap.size, 1, none⟩ (.string ⟨#[]⟩)).setCell ⟨w1.heap.size, 2, none⟩ (.int .i64 0)).setCell ⟨w1.heap.size, 3, none⟩ (.slice none 0 0)).setCell ⟨w1.heap.size, 4, none⟩ (.int .i64 0))) :=
          Lib.hid (.inr ⟨c, q, b, rfl, HRE.out, by omega, (hA6.below hb6).far5 (by omega) _ _ _ _ _, (hB6.below hb6).far5 (by omega) _ _ _ _ _, (hF6.onB hF6.size hb6).set5 (by omega) _ _ _ _ _⟩)
        clear hE7 hA6 hB6 hE6 hF6 hb6
        go_wp2
        go_roundg 0
        case measure => exact hpos
        case rel => exact HRL.out
      | ok y r2 =>
        rw [hft] at hp
        obtain ⟨o2, nm2, n2, A2, ll2, cap2, p2, rfl, hC, hX5, hF5⟩ := hp
        have hE5 := hE4.fr hF5 (by omega)
        have hB5 := hB4.fr hF5 (by omega)
        have hD5 := hD4.fr hF5 (by omega)
        obtain ⟨e0, e1, e2, e3, e4⟩ := hE5.cells
        obtain ⟨y0, y1, y2, y3, y4⟩ := hE5.frozen
        obtain ⟨q0, q1, q2, q3, q4⟩ := hD5.cells
        obtain ⟨x0, x1, x2, x3, x4⟩ := hD5.frozen
        have hs7 := hE5.lt
        have hs8 := hD5.lt
        have hne1 : w1.heap.size ≠ w3.heap.size := by omega
        have hne2 : w3.heap.size ≠ w1.heap.size := by omega
        have HE5 := Lib.hid hE5
        have HB5 := Lib.hid hB5
        have HD5 := Lib.hid hD5
        have HX5 := Lib.hid hX5
        have HH5 := Lib.hid (hH4.frS hF5 (by omega))
        have HC5 := Lib.hid (show HS w4 57 (fun j => w.heap.size < j ∧ j ≠ w1.heap.size ∧ j ≠ w3.heap.size) y (exC o2 nm2 n2 A2 ll2 cap2 p2) from hC.wide (fun j _ hj => by unfold Rg at hj; omega))
        have HF5 := Lib.hid (hF4.on hF4.size hF5)
        obtain ⟨hgo, hlt⟩ := chain_go (k := k) (e := e) HSH.out HSG.out hft
        have HRE := Lib.hid (HCH.out.trans hgo)
        have HLT := Lib.hid hlt
        clear hE5 hB5 hD5 hC hF5 hX5 hX4 hE4 hB4 hD4 hH4 hF4 hft hgo hlt
        go_wp2_with fail
        refine calls_gen (P := fun W3 => XR W3 xb rb r2 lv ∧ Box W3 w.heap.size (.string ⟨#[]⟩) (.string ⟨#[]⟩) (.int .i64 0) (.slice none 0 0) (.int .i64 0) ∧ Box W3 w1.heap.size (.string o) (.string nm) (.int .i64 n) (.slice A ll cap) (.int .i64 p) ∧ HS W3 57 (fun j => w.heap.size < j ∧ j ≠ w1.heap.size ∧ j ≠ w3.heap.size) e (exC o nm n A ll cap p) ∧ HS W3 57 (fun j => w.heap.size < j ∧ j ≠ w1.heap.size ∧ j ≠ w3.heap.size) y (exC o2 nm2 n2 A2 ll2 cap2 p2) ∧ Fr w.heap.size rb w W3 ∧ w3.heap.size < W3.heap.size) ⟨HX5.out.set5 HD5.out (by omega) _ _ _ _ _, HB5.out.far5 (by omega) _ _ _ _ _, HE5.out.far5 hne1 _ _ _ _ _, HH5.out.far5S (by omega) _ _ _ _ _, HC5.out.far5S (by omega) _ _ _ _ _, HF5.out.set5 (by omega) _ _ _ _ _, by simpa using hs8⟩ ?_
        rintro W3 ⟨hX6, hB6, hE6, hH6, hC6, hF6, hs9⟩
        have hs10 := hE6.lt
        refine (joined_ok (hd r).text W3 hH6 hC6 (fun j hj => by omega)).mono ?_
        rintro e'' w5 ⟨g, rfl, hJ, hb6⟩
        have hE7 := hE6.below hb6
        obtain ⟨e0, e1, e2, e3, e4⟩ := hE7.cells
        obtain ⟨y0, y1, y2, y3, y4⟩ := hE7.frozen
        have hs11 := hE7.lt
        have HRL : Hid (ChRel xb rb lv k F res w w1.heap.size r2.length .nilIface (((((w5.setCell ⟨w1.heap.size, 0, none⟩ (.string ⟨(hd r).text.toArray⟩)).setCell ⟨w1.heap.size, 1, none⟩ (.string ⟨#[]⟩)).setCell ⟨w1.heap.size, 2, none⟩ (.int .i64 0)).setCell ⟨w1.heap.size, 3, none⟩ (.slice (some ⟨g, 0, none⟩) 2 2)).setCell ⟨w1.heap.size, 4, none⟩ (.int .i64 p))) :=
          Lib.hid (.inl ⟨.bin (hd r).text e y e.pos, r2, _, _, _, _, _, _, _, rfl, HRE.out, rfl, List.length_pos_iff.2 hX6.fine.ne, (hJ.far5S (by omega) _ _ _ _ _).wide (fun j _ hj => ⟨hj.1, hj.2.1⟩), hE7.set5 _ _ _ _ _, (hB6.below hb6).far5 (by omega) _ _ _ _ _, (hX6.below hb6).set5 hE7 (by omega) _ _ _ _ _, (hF6.onB hF6.size hb6).set5 (by omega) _ _ _ _ _⟩)
        clear hE7 hJ hB6 hE6 hF6 hb6 hX6 hH6 hC6
        go_wp2
        go_roundg r2.length
        case measure => exact HLT.out
        case rel => exact HRL.out
set_option maxHeartbeats 4000000 in
set_option maxRecDepth 100000 in
theorem chain_neg {lv k : Nat} {F : List Tok → PR} (hR : RC 178 F lv) (hS : Shr F) (hk : k < 8) {xb rb : Nat} {us : List Tok} (w : World) (h : XR w xb rb us lv) : Calls Tryz.prog 175 #[.pointer (some ⟨xb, 0, none⟩), .int .i64 (k : Int), .func (.func 178) #[.pointer (some ⟨xb, 0, none⟩)] #[]] w (PP xb rb lv (chainX k F us) w) := by
  have hx := h.ltx
  have hr := h.ltr
  have HR := Lib.hid hR
  have HSH := Lib.hid hS
  have HX := Lib.hid h
  obtain ⟨res, hres⟩ : ∃ res, res = chainX k F us := ⟨_, rfl⟩
  rw [← hres]
  have HRES := Lib.hid hres
  clear h hR hS hres
  go_enter Tryz.func175, Tryz.ntmps175
  go_wp2_with fail
  refine calls_gen (P := fun W => XR W xb rb us lv ∧ Box W w.heap.size (.string ⟨#[]⟩) (.string ⟨#[]⟩) (.int .i64 0) (.slice none 0 0) (.int .i64 0) ∧ Fr w.heap.size rb w W) ⟨HX.out.alloc _, Box.new _ _ _ _ _ _, (Fr.refl _ _ _).alloc (Nat.le_refl _) _⟩ ?_
  rintro W ⟨hX, hB, hF⟩
  refine (HR.out xb rb W us hX).mono ?_
  intro e w1 hp
  have hs := hB.lt
  cases hfu : F us with
  | er c q =>
    rw [hfu] at hp
    obtain ⟨b, rfl, hbb, hA, hF1⟩ := hp
    have HE : Hid (ChEr rb res w (.iface 101 (.pointer (some ⟨b, 0, none⟩))) (w1.alloc (.cells #[.string ⟨#[]⟩, .string ⟨#[]⟩, .int .i64 0, .slice none 0 0, .int .i64 0] 57))) :=
      Lib.hid (⟨c, q, b, rfl, by rw [HRES.out, chainX, hfu]; rfl, by omega, hA.alloc _, (hB.fr hF1 (by omega)).alloc _, (hF.on hF.size hF1).alloc (by have := hF.size; have := hF1.size; omega) _⟩)
    have hs1 : w.heap.size < w1.heap.size := (hB.fr hF1 (by omega)).lt
    clear hA hF1 hbb hfu hX hB hF
    go_wp2
    go_loopg [9] 0 (fun _ err wr => ChEr rb res w err wr)
    case atStart => exact HE.out
    case round =>
      clear HE
      obtain ⟨c, q, b, rfl, hre, hb, hA, hB, hF⟩ := hrel
      obtain ⟨b0, b1, b2, b3, b4⟩ := hB.cells
      obtain ⟨z0, z1, z2, z3, z4⟩ := hB.frozen
      have hs2 := hB.lt
      have HB := Lib.hid hB
      have HA := Lib.hid hA
      have HF := Lib.hid hF
      have HRE := Lib.hid hre
      clear hB hA hF hre
      go_wp2
      obtain ⟨d0, d1, d2, d3, d4⟩ := (HB.out.set5 (.string ⟨#[]⟩) (.string ⟨#[]⟩) (.int .i64 0) (.slice none 0 0) (.int .i64 0)).cells
      rw [HRE.out]
      refine bodyPost_ret (v := .tuple #[.agg #[.string ⟨#[]⟩, .string ⟨#[]⟩, .int .i64 0, .slice none 0 0, .int .i64 0], .iface 101 (.pointer (some ⟨b, 0, none⟩))]) (by simp [results, Tryz.results175, go_sem, d0, d1, d2, d3, d4]) rfl ⟨b, rfl, by omega, ?_, ?_⟩
      · exact HA.out.far5 (by omega) _ _ _ _ _
      · exact HF.out.set5 (Nat.le_refl _) _ _ _ _ _
  | ok x r =>
    rw [hfu] at hp
    obtain ⟨o, nm, n, A, ll, cap, p, rfl, hC, hX1, hF1⟩ := hp
    have hne := (List.length_pos_iff.2 hX1.fine.ne)
    have HE : Hid (ChRel xb rb lv k F res w w1.heap.size r.length .nilIface (w1.alloc (.cells #[.string o, .string nm, .int .i64 n, .slice A ll cap, .int .i64 p] 57))) :=
      Lib.hid (.inl ⟨x, r, o, nm, n, A, ll, cap, p, rfl, by rw [HRES.out, chainX, hfu]; rfl, rfl, hne, (hC.wide (fun j _ hj => by unfold Rg at hj; omega)).alloc _, Box.new _ _ _ _ _ _, (hB.fr hF1 (by omega)).alloc _, hX1.alloc _, (hF.on hF.size hF1).alloc (by have := hF.size; have := hF1.size; omega) _⟩)
    have hs1 : w.heap.size < w1.heap.size := (hB.fr hF1 (by omega)).lt
    clear hC hX1 hF1 hfu hX hB hF hne
    go_wp2
    go_loopg [9] r.length (fun gk err wr => ChRel xb rb lv k F res w w1.heap.size gk err wr)
    case atStart => exact HE.out
    case round =>
      clear HE
      rcases hrel with ⟨e, r, o, nm, n, A, ll, cap, p, rfl, hch, rfl, hpos, hH, hE, hB, hX, hF⟩ | hrel
      rotate_left
      · obtain ⟨c, q, b, rfl, hre, hb, hA, hB, hF⟩ := hrel
        obtain ⟨b0, b1, b2, b3, b4⟩ := hB.cells
        obtain ⟨z0, z1, z2, z3, z4⟩ := hB.frozen
        have hs2 := hB.lt
        have HB := Lib.hid hB
        have HA := Lib.hid hA
        have HF := Lib.hid hF
        have HRE := Lib.hid hre
        clear hB hA hF hre
        go_wp2
        obtain ⟨d0, d1, d2, d3, d4⟩ := (HB.out.set5 (.string ⟨#[]⟩) (.string ⟨#[]⟩) (.int .i64 0) (.slice none 0 0) (.int .i64 0)).cells
        rw [HRE.out]
        refine bodyPost_ret (v := .tuple #[.agg #[.string ⟨#[]⟩, .string ⟨#[]⟩, .int .i64 0, .slice none 0 0, .int .i64 0], .iface 101 (.pointer (some ⟨b, 0, none⟩))]) (by simp [results, Tryz.results175, go_sem, d0, d1, d2, d3, d4]) rfl ⟨b, rfl, by omega, ?_, ?_⟩
        · exact HA.out.far5 (by omega) _ _ _ _ _
        · exact HF.out.set5 (Nat.le_refl _) _ _ _ _ _
        
      have HCH := Lib.hid hch
      have hxw := hX.ltx
      have hrw := hX.ltr
      have hew := hE.lt
      have hbw := hB.lt
      by_cases hsg : sg k (hd r) = true
      rotate_left
      · have hsg' : sg k (hd r) = false := by simpa using hsg
        have HRE := Lib.hid (hch.trans (chain_stop hsg'))
        have HN := Lib.hid (sign_no wr hX k hk hsg')
        have HE2 := Lib.hid hE
        have HB2 := Lib.hid hB
        have HX2 := Lib.hid hX
        have HH2 := Lib.hid hH
        have HF2 := Lib.hid hF
        clear hsg hsg' hch hE hB hX hH hF
        go_wp2_with fail
        with_reducible refine (HN.out).mono ?_
        rintro e' w3 ⟨rfl, hb3⟩
        have hB3 := HB2.out.below hb3
        have hE3 := HE2.out.below hb3
        obtain ⟨b0, b1, b2, b3, b4⟩ := hB3.cells
        obtain ⟨z0, z1, z2, z3, z4⟩ := hB3.frozen
        obtain ⟨e0, e1, e2, e3, e4⟩ := hE3.cells
        have hs3 := hB3.lt
        have hs4 := hE3.lt
        have HB3 := Lib.hid hB3
        have HX3 := Lib.hid (HX2.out.below hb3)
        have HH3 := Lib.hid (HH2.out.below hb3)
        have HF3 := Lib.hid (HF2.out.onB HF2.out.size hb3)
        clear hB3 hE3 hb3
        go_wp2
        obtain ⟨d0, d1, d2, d3, d4⟩ := (HB3.out.set5 (.string o) (.string nm) (.int .i64 n) (.slice A ll cap) (.int .i64 p)).cells
        rw [HRE.out]
        refine bodyPost_ret (v := .tuple #[.agg #[.string o, .string nm, .int .i64 n, .slice A ll cap, .int .i64 p], .nilIface]) (by simp [results, Tryz.results175, go_sem, d0, d1, d2, d3, d4]) rfl ⟨o, nm, n, A, ll, cap, p, rfl, ?_, ?_, ?_⟩
        · exact (HH3.out.far5S (by omega) _ _ _ _ _).wide (fun j hj hS => by simp at hj; unfold Rg; simp; omega)
        · exact HX3.out.set5 HB3.out (by omega) _ _ _ _ _
        · exact HF3.out.set5 (Nat.le_refl _) _ _ _ _ _
      have HSG := Lib.hid hsg
      have HY := Lib.hid (sign_yes wr hX k hsg)
      have HE2 := Lib.hid hE
      have HB2 := Lib.hid hB
      have HH2 := Lib.hid hH
      have HF2 := Lib.hid hF
      clear hsg hch hE hB hX hH hF
      go_wp2_with fail
      with_reducible refine (HY.out).mono ?_
      rintro e' w3 ⟨rfl, hX3, hF3⟩
      have HX3 := Lib.hid hX3
      have HE3 := Lib.hid (HE2.out.fr hF3 (by omega))
      have HB3 := Lib.hid (HB2.out.fr hF3 (by omega))
      have HH3 := Lib.hid (show HS w3 57 (fun j => w.heap.size < j ∧ j ≠ w1.heap.size ∧ j ≠ w3.heap.size) e (exC o nm n A ll cap p) from (HH2.out.frS hF3 (by omega)).wide (fun j hj hS => by omega))
      have HF3 := Lib.hid (HF2.out.on HF2.out.size hF3)
      clear hX3 hF3
      go_wp2_with fail
      refine calls_gen (P := fun W2 => XR W2 xb rb r.tail lv ∧ Box W2 w1.heap.size (.string o) (.string nm) (.int .i64 n) (.slice A ll cap) (.int .i64 p) ∧ Box W2 w.heap.size (.string ⟨#[]⟩) (.string ⟨#[]⟩) (.int .i64 0) (.slice none 0 0) (.int .i64 0) ∧ Box W2 w3.heap.size (.string ⟨#[]⟩) (.string ⟨#[]⟩) (.int .i64 0) (.slice none 0 0) (.int .i64 0) ∧ HS W2 57 (fun j => w.heap.size < j ∧ j ≠ w1.heap.size ∧ j ≠ w3.heap.size) e (exC o nm n A ll cap p) ∧ Fr w.heap.size rb w W2) ⟨HX3.out.alloc _, HE3.out.alloc _, HB3.out.alloc _, Box.new _ _ _ _ _ _, HH3.out.alloc _, HF3.out.alloc HF3.out.size _⟩ ?_
      rintro W2 ⟨hX4, hE4, hB4, hD4, hH4, hF4⟩
      have hs4 := hE4.lt
      have hs5 := HE3.out.lt
      have hs6 := hD4.lt
      refine (HR.out xb rb W2 r.tail hX4).mono ?_
      intro e' w4 hp
      cases hft : F r.tail with
      | er c q =>
        rw [hft] at hp
        obtain ⟨b, rfl, hbb, hA, hF5⟩ := hp
        have hE5 := hE4.fr hF5 (by omega)
        have hB5 := hB4.fr hF5 (by omega)
        have hD5 := hD4.fr hF5 (by omega)
        obtain ⟨e0, e1, e2, e3, e4⟩ := hE5.cells
        obtain ⟨y0, y1, y2, y3, y4⟩ := hE5.frozen
        obtain ⟨q0, q1, q2, q3, q4⟩ := hD5.cells
        obtain ⟨x0, x1, x2, x3, x4⟩ := hD5.frozen
        have hs7 := hE5.lt
        have hs8 := hD5.lt
        have hne1 : w1.heap.size ≠ w3.heap.size := by omega
        have hne2 : w3.heap.size ≠ w1.heap.size := by omega
        have HE5 := Lib.hid hE5
        have HB5 := Lib.hid hB5
        have HD5 := Lib.hid hD5
        have HA5 := Lib.hid hA
        have HF5 := Lib.hid (hF4.on hF4.size hF5)
        have HRE := Lib.hid (HCH.out.trans (chain_er HSG.out hft))
        clear hE5 hB5 hD5 hA hF5 hX4 hE4 hB4 hD4 hH4 hF4 hft
        go_wp2_with fail
        refine calls_gen (P := fun W3 => AtE W3 b q c ∧ Box W3 w.heap.size (.string ⟨#[]⟩) (.string ⟨#[]⟩) (.int .i64 0) (.slice none 0 0) (.int .i64 0) ∧ Box W3 w1.heap.size (.string o) (.string nm) (.int .i64 n) (.slice A ll cap) (.int .i64 p) ∧ Fr w.heap.size rb w W3) ⟨HA5.out.far5 (by omega) _ _ _ _ _, HB5.out.far5 (by omega) _ _ _ _ _, HE5.out.far5 hne1 _ _ _ _ _, HF5.out.set5 (by omega) _ _ _ _ _⟩ ?_
        rintro W3 ⟨hA6, hB6, hE6, hF6⟩
        refine (joined_er _ _ _ _ _ _ _ _ _ _ _ _ _ _ _ _ _ W3).mono ?_
        rintro e'' w5 ⟨rfl, hb6⟩
        have hE7 := hE6.below hb6
        obtain ⟨e0, e1, e2, e3, e4⟩ := hE7.cells
        obtain ⟨y0, y1, y2, y3, y4⟩ := hE7.frozen
        have hs9 := hE7.lt
        have HRL : Hid (ChRel xb rb lv k F res w w1.heap.size 0 (.iface 101 (.pointer (some ⟨b, 0, none⟩))) (((((w5.setCell ⟨w1.heap.size, 0, none⟩ (.string ⟨#[]⟩)).setCell ⟨w1.heap.size, 1, none⟩ (.string ⟨#[]⟩)).setCell ⟨w1.heap.size, 2, none⟩ (.int .i64 0)).setCell ⟨w1.heap.size, 3, none⟩ (.slice none 0 0)).setCell ⟨w1.heap.size, 4, none⟩ (.int .i64 0))) :=
          Lib.hid (.inr ⟨c, q, b, rfl, HRE.out, by omega, (hA6.below hb6).far5 (by omega) _ _ _ _ _, (hB6.below hb6).far5 (by omega) _ _ _ _ _, (hF6.onB hF6.size hb6).set5 (by omega) _ _ _ _ _⟩)
        clear hE7 hA6 hB6 hE6 hF6 hb6
        go_wp2
        go_roundg 0
        case measure => exact hpos
        case rel => exact HRL.out
      | ok y r2 =>
        rw [hft] at hp
        obtain ⟨o2, nm2, n2, A2, ll2, cap2, p2, rfl, hC, hX5, hF5⟩ := hp
        have hE5 := hE4.fr hF5 (by omega)
        have hB5 := hB4.fr hF5 (by omega)
        have hD5 := hD4.fr hF5 (by omega)
        obtain ⟨e0, e1, e2, e3, e4⟩ := hE5.cells
        obtain ⟨y0, y1, y2, y3, y4⟩ := hE5.frozen
        obtain ⟨q0, q1, q2, q3, q4⟩ := hD5.cells
        obtain ⟨x0, x1, x2, x3, x4⟩ := hD5.frozen
        have hs7 := hE5.lt
        have hs8 := hD5.lt
        have hne1 : w1.heap.size ≠ w3.heap.size := by omega
        have hne2 : w3.heap.size ≠ w1.heap.size := by omega
        have HE5 := Lib.hid hE5
        have HB5 := Lib.hid hB5
        have HD5 := Lib.hid hD5
        have HX5 := Lib.hid hX5
        have HH5 := Lib.hid (hH4.frS hF5 (by omega))
        have HC5 := Lib.hid (show HS w4 57 (fun j => w.heap.size < j ∧ j ≠ w1.heap.size ∧ j ≠ w3.heap.size) y (exC o2 nm2 n2 A2 ll2 cap2 p2) from hC.wide (fun j _ hj => by unfold Rg at hj; omega))
        have HF5 := Lib.hid (hF4.on hF4.size hF5)
        obtain ⟨hgo, hlt⟩ := chain_go (k := k) (e := e) HSH.out HSG.out hft
        have HRE := Lib.hid (HCH.out.trans hgo)
        have HLT := Lib.hid hlt
        clear hE5 hB5 hD5 hC hF5 hX5 hX4 hE4 hB4 hD4 hH4 hF4 hft hgo hlt
        go_wp2_with fail
        refine calls_gen (P := fun W3 => XR W3 xb rb r2 lv ∧ Box W3 w.heap.size (.string ⟨#[]⟩) (.string ⟨#[]⟩) (.int .i64 0) (.slice none 0 0) (.int .i64 0) ∧ Box W3 w1.heap.size (.string o) (.string nm) (.int .i64 n) (.slice A ll cap) (.int .i64 p) ∧ HS W3 57 (fun j => w.heap.size < j ∧ j ≠ w1.heap.size ∧ j ≠ w3.heap.size) e (exC o nm n A ll cap p) ∧ HS W3 57 (fun j => w.heap.size < j ∧ j ≠ w1.heap.size ∧ j ≠ w3.heap.size) y (exC o2 nm2 n2 A2 ll2 cap2 p2) ∧ Fr w.heap.size rb w W3 ∧ w3.heap.size < W3.heap.size) ⟨HX5.out.set5 HD5.out (by omega) _ _ _ _ _, HB5.out.far5 (by omega) _ _ _ _ _, HE5.out.far5 hne1 _ _ _ _ _, HH5.out.far5S (by omega) _ _ _ _ _, HC5.out.far5S (by omega) _ _ _ _ _, HF5.out.set5 (by omega) _ _ _ _ _, by simpa using hs8⟩ ?_
        rintro W3 ⟨hX6, hB6, hE6, hH6, hC6, hF6, hs9⟩
        have hs10 := hE6.lt
        refine (joined_ok (hd r).text W3 hH6 hC6 (fun j hj => by omega)).mono ?_
        rintro e'' w5 ⟨g, rfl, hJ, hb6⟩
        have hE7 := hE6.below hb6
        obtain ⟨e0, e1, e2, e3, e4⟩ := hE7.cells
        obtain ⟨y0, y1, y2, y3, y4⟩ := hE7.frozen
        have hs11 := hE7.lt
        have HRL : Hid (ChRel xb rb lv k F res w w1.heap.size r2.length .nilIface (((((w5.setCell ⟨w1.heap.size, 0, none⟩ (.string ⟨(hd r).text.toArray⟩)).setCell ⟨w1.heap.size, 1, none⟩ (.string ⟨#[]⟩)).setCell ⟨w1.heap.size, 2, none⟩ (.int .i64 0)).setCell ⟨w1.heap.size, 3, none⟩ (.slice (some ⟨g, 0, none⟩) 2 2)).setCell ⟨w1.heap.size, 4, none⟩ (.int .i64 p))) :=
          Lib.hid (.inl ⟨.bin (hd r).text e y e.pos, r2, _, _, _, _, _, _, _, rfl, HRE.out, rfl, List.length_pos_iff.2 hX6.fine.ne, (hJ.far5S (by omega) _ _ _ _ _).wide (fun j _ hj => ⟨hj.1, hj.2.1⟩), hE7.set5 _ _ _ _ _, (hB6.below hb6).far5 (by omega) _ _ _ _ _, (hX6.below hb6).set5 hE7 (by omega) _ _ _ _ _, (hF6.onB hF6.size hb6).set5 (by omega) _ _ _ _ _⟩)
        clear hE7 hJ hB6 hE6 hF6 hb6 hX6 hH6 hC6
        go_wp2
        go_roundg r2.length
        case measure => exact HLT.out
        case rel => exact HRL.out
set_option maxHeartbeats 4000000 in
set_option maxRecDepth 100000 in
theorem chain_conj {lv k : Nat} {F : List Tok → PR} (hR : RC 176 F lv) (hS : Shr F) (hk : k < 8) {xb rb : Nat} {us : List Tok} (w : World) (h : XR w xb rb us lv) : Calls Tryz.prog 175 #[.pointer (some ⟨xb, 0, none⟩), .int .i64 (k : Int), .func (.func 176) #[.pointer (some ⟨xb, 0, none⟩)] #[]] w (PP xb rb lv (chainX k F us) w) := by
  have hx := h.ltx
  have hr := h.ltr
  have HR := Lib.hid hR
  have HSH := Lib.hid hS
  have HX := Lib.hid h
  obtain ⟨res, hres⟩ : ∃ res, res = chainX k F us := ⟨_, rfl⟩
  rw [← hres]
  have HRES := Lib.hid hres
  clear h hR hS hres
  go_enter Tryz.func175, Tryz.ntmps175
  go_wp2_with fail
  refine calls_gen (P := fun W => XR W xb rb us lv ∧ Box W w.heap.size (.string ⟨#[]⟩) (.string ⟨#[]⟩) (.int .i64 0) (.slice none 0 0) (.int .i64 0) ∧ Fr w.heap.size rb w W) ⟨HX.out.alloc _, Box.new _ _ _ _ _ _, (Fr.refl _ _ _).alloc (Nat.le_refl _) _⟩ ?_
  rintro W ⟨hX, hB, hF⟩
  refine (HR.out xb rb W us hX).mono ?_
  intro e w1 hp
  have hs := hB.lt
  cases hfu : F us with
  | er c q =>
    rw [hfu] at hp
    obtain ⟨b, rfl, hbb, hA, hF1⟩ := hp
    have HE : Hid (ChEr rb res w (.iface 101 (.pointer (some ⟨b, 0, none⟩))) (w1.alloc (.cells #[.string ⟨#[]⟩, .string ⟨#[]⟩, .int .i64 0, .slice none 0 0, .int .i64 0] 57))) :=
      Lib.hid (⟨c, q, b, rfl, by rw [HRES.out, chainX, hfu]; rfl, by omega, hA.alloc _, (hB.fr hF1 (by omega)).alloc _, (hF.on hF.size hF1).alloc (by have := hF.size; have := hF1.size; omega) _⟩)
    have hs1 : w.heap.size < w1.heap.size := (hB.fr hF1 (by omega)).lt
    clear hA hF1 hbb hfu hX hB hF
    go_wp2
    go_loopg [9] 0 (fun _ err wr => ChEr rb res w err wr)
    case atStart => exact HE.out
    case round =>
      clear HE
      obtain ⟨c, q, b, rfl, hre, hb, hA, hB, hF⟩ := hrel
      obtain ⟨b0, b1, b2, b3, b4⟩ := hB.cells
      obtain ⟨z0, z1, z2, z3, z4⟩ := hB.frozen
      have hs2 := hB.lt
      have HB := Lib.hid hB
      have HA := Lib.hid hA
      have HF := Lib.hid hF
      have HRE := Lib.hid hre
      clear hB hA hF hre
      go_wp2
      obtain ⟨d0, d1, d2, d3, d4⟩ := (HB.out.set5 (.string ⟨#[]⟩) (.string ⟨#[]⟩) (.int .i64 0) (.slice none 0 0) (.int .i64 0)).cells
      rw [HRE.out]
      refine bodyPost_ret (v := .tuple #[.agg #[.string ⟨#[]⟩, .string ⟨#[]⟩, .int .i64 0, .slice none 0 0, .int .i64 0], .iface 101 (.pointer (some ⟨b, 0, none⟩))]) (by simp [results, Tryz.results175, go_sem, d0, d1, d2, d3, d4]) rfl ⟨b, rfl, by omega, ?_, ?_⟩
      · exact HA.out.far5 (by omega) _ _ _ _ _
      · exact HF.out.set5 (Nat.le_refl _) _ _ _ _ _
  | ok x r =>
    rw [hfu] at hp
    obtain ⟨o, nm, n, A, ll, cap, p, rfl, hC, hX1, hF1⟩ := hp
    have hne := (List.length_pos_iff.2 hX1.fine.ne)
    have HE : Hid (ChRel xb rb lv k F res w w1.heap.size r.length .nilIface (w1.alloc (.cells #[.string o, .string nm, .int .i64 n, .slice A ll cap, .int .i64 p] 57))) :=
      Lib.hid (.inl ⟨x, r, o, nm, n, A, ll, cap, p, rfl, by rw [HRES.out, chainX, hfu]; rfl, rfl, hne, (hC.wide (fun j _ hj => by unfold Rg at hj; omega)).alloc _, Box.new _ _ _ _ _ _, (hB.fr hF1 (by omega)).alloc _, hX1.alloc _, (hF.on hF.size hF1).alloc (by have := hF.size; have := hF1.size; omega) _⟩)
    have hs1 : w.heap.size < w1.heap.size := (hB.fr hF1 (by omega)).lt
    clear hC hX1 hF1 hfu hX hB hF hne
    go_wp2
    go_loopg [9] r.length (fun gk err wr => ChRel xb rb lv k F res w w1.heap.size gk err wr)
    case atStart => exact HE.out
    case round =>
      clear HE
      rcases hrel with ⟨e, r, o, nm, n, A, ll, cap, p, rfl, hch, rfl, hpos, hH, hE, hB, hX, hF⟩ | hrel
      rotate_left
      · obtain ⟨c, q, b, rfl, hre, hb, hA, hB, hF⟩ := hrel
        obtain ⟨b0, b1, b2, b3, b4⟩ := hB.cells
        obtain ⟨z0, z1, z2, z3, z4⟩ := hB.frozen
        have hs2 := hB.lt
        have HB := Lib.hid hB
        have HA := Lib.hid hA
        have HF := Lib.hid hF
        have HRE := Lib.hid hre
        clear hB hA hF hre
        go_wp2
        obtain ⟨d0, d1, d2, d3, d4⟩ := (HB.out.set5 (.string ⟨#[]⟩) (.string ⟨#[]⟩) (.int .i64 0) (.slice none 0 0) (.int .i64 0)).cells
        rw [HRE.out]
        refine bodyPost_ret (v := .tuple #[.agg #[.string ⟨#[]⟩, .string ⟨#[]⟩, .int .i64 0, .slice none 0 0, .int .i64 0], .iface 101 (.pointer (some ⟨b, 0, none⟩))]) (by simp [results, Tryz.results175, go_sem, d0, d1, d2, d3, d4]) rfl ⟨b, rfl, by omega, ?_, ?_⟩
        · exact HA.out.far5 (by omega) _ _ _ _ _
        · exact HF.out.set5 (Nat.le_refl _) _ _ _ _ _
        
      have HCH := Lib.hid hch
      have hxw := hX.ltx
      have hrw := hX.ltr
      have hew := hE.lt
      have hbw := hB.lt
      by_cases hsg : sg k (hd r) = true
      rotate_left
      · have hsg' : sg k (hd r) = false := by simpa using hsg
        have HRE := Lib.hid (hch.trans (chain_stop hsg'))
        have HN := Lib.hid (sign_no wr hX k hk hsg')
        have HE2 := Lib.hid hE
        have HB2 := Lib.hid hB
        have HX2 := Lib.hid hX
        have HH2 := Lib.hid hH
        have HF2 := Lib.hid hF
        clear hsg hsg' hch hE hB hX hH hF
        go_wp2_with fail
        with_reducible refine (HN.out).mono ?_
        rintro e' w3 ⟨rfl, hb3⟩
        have hB3 := HB2.out.below hb3
        have hE3 := HE2.out.below hb3
        obtain ⟨b0, b1, b2, b3, b4⟩ := hB3.cells
        obtain ⟨z0, z1, z2, z3, z4⟩ := hB3.frozen
        obtain ⟨e0, e1, e2, e3, e4⟩ := hE3.cells
        have hs3 := hB3.lt
        have hs4 := hE3.lt
        have HB3 := Lib.hid hB3
        have HX3 := Lib.hid (HX2.out.below hb3)
        have HH3 := Lib.hid (HH2.out.below hb3)
        have HF3 := Lib.hid (HF2.out.onB HF2.out.size hb3)
        clear hB3 hE3 hb3
        go_wp2
        obtain ⟨d0, d1, d2, d3, d4⟩ := (HB3.out.set5 (.string o) (.string nm) (.int .i64 n) (.slice A ll cap) (.int .i64 p)).cells
        rw [HRE.out]
        refine bodyPost_ret (v := .tuple #[.agg #[.string o, .string nm, .int .i64 n, .slice A ll cap, .int .i64 p], .nilIface]) (by simp [results, Tryz.results175, go_sem, d0, d1, d2, d3, d4]) rfl ⟨o, nm, n, A, ll, cap, p, rfl, ?_, ?_, ?_⟩
        · exact (HH3.out.far5S (by omega) _ _ _ _ _).wide (fun j hj hS => by simp at hj; unfold Rg; simp; omega)
        · exact HX3.out.set5 HB3.out (by omega) _ _ _ _ _
        · exact HF3.out.set5 (Nat.le_refl _) _ _ _ _ _
      have HSG := Lib.hid hsg
      have HY := Lib.hid (sign_yes wr hX k hsg)
      have HE2 := Lib.hid hE
      have HB2 := Lib.hid hB
      have HH2 := Lib.hid hH
      have HF2 := Lib.hid hF
      clear hsg hch hE hB hX hH hF
      go_wp2_with fail
      with_reducible refine (HY.out).mono ?_
      rintro e' w3 ⟨rfl, hX3, hF3⟩
      have HX3 := Lib.hid hX3
      have HE3 := Lib.hid (HE2.out.fr hF3 (by omega))
      have HB3 := Lib.hid (HB2.out.fr hF3 (by omega))
      have HH3 := Lib.hid (show HS w3 57 (fun j => w.heap.size < j ∧ j ≠ w1.heap.size ∧ j ≠ w3.heap.size) e (exC o nm n A ll cap p) from (HH2.out.frS hF3 (by omega)).wide (fun j hj hS => by omega))
      have HF3 := Lib.hid (HF2.out.on HF2.out.size hF3)
      clear hX3 hF3
      go_wp2_with fail
      refine calls_gen (P := fun W2 => XR W2 xb rb r.tail lv ∧ Box W2 w1.heap.size (.string o) (.string nm) (.int .i64 n) (.slice A ll cap) (.int .i64 p) ∧ Box W2 w.heap.size (.string ⟨#[]⟩) (.string ⟨#[]⟩) (.int .i64 0) (.slice none 0 0) (.int .i64 0) ∧ Box W2 w3.heap.size (.string ⟨#[]⟩) (.string ⟨#[]⟩) (.int .i64 0) (.slice none 0 0) (.int .i64 0) ∧ HS W2 57 (fun j => w.heap.size < j ∧ j ≠ w1.heap.size ∧ j ≠ w3.heap.size) e (exC o nm n A ll cap p) ∧ Fr w.heap.size rb w W2) ⟨HX3.out.alloc _, HE3.out.alloc _, HB3.out.alloc _, Box.new _ _ _ _ _ _, HH3.out.alloc _, HF3.out.alloc HF3.out.size _⟩ ?_
      rintro W2 ⟨hX4, hE4, hB4, hD4, hH4, hF4⟩
      have hs4 := hE4.lt
      have hs5 := HE3.out.lt
      have hs6 := hD4.lt
      refine (HR.out xb rb W2 r.tail hX4).mono ?_
      intro e' w4 hp
      cases hft : F r.tail with
      | er c q =>
        rw [hft] at hp
        obtain ⟨b, rfl, hbb, hA, hF5⟩ := hp
        have hE5 := hE4.fr hF5 (by omega)
        have hB5 := hB4.fr hF5 (by omega)
        have hD5 := hD4.fr hF5 (by omega)
        obtain ⟨e0, e1, e2, e3, e4⟩ := hE5.cells
        obtain ⟨y0, y1, y2, y3, y4⟩ := hE5.frozen
        obtain ⟨q0, q1, q2, q3, q4⟩ := hD5.cells
        obtain ⟨x0, x1, x2, x3, x4⟩ := hD5.frozen
        have hs7 := hE5.lt
        have hs8 := hD5.lt
        have hne1 : w1.heap.size ≠ w3.heap.size := by omega
        have hne2 : w3.heap.size ≠ w1.heap.size := by omega
        have HE5 := Lib.hid hE5
        have HB5 := Lib.hid hB5
        have HD5 := Lib.hid hD5
        have HA5 := Lib.hid hA
        have HF5 := Lib.hid (hF4.on hF4.size hF5)
        have HRE := Lib.hid (HCH.out.trans (chain_er HSG.out hft))
        clear hE5 hB5 hD5 hA hF5 hX4 hE4 hB4 hD4 hH4 hF4 hft
        go_wp2_with fail
        refine calls_gen (P := fun W3 => AtE W3 b q c ∧ Box W3 w.heap.size (.string ⟨#[]⟩) (.string ⟨#[]⟩) (.int .i64 0) (.slice none 0 0) (.int .i64 0) ∧ Box W3 w1.heap.size (.string o) (.string nm) (.int .i64 n) (.slice A ll cap) (.int .i64 p) ∧ Fr w.heap.size rb w W3) ⟨HA5.out.far5 (by omega) _ _ _ _ _, HB5.out.far5 (by omega) _ _ _ _ _, HE5.out.far5 hne1 _ _ _ _ _, HF5.out.set5 (by omega) _ _ _ _ _⟩ ?_
        rintro W3 ⟨hA6, hB6, hE6, hF6⟩
        refine (joined_er _ _ _ _ _ _ _ _ _ _ _ _ _ _ _ _ _ W3).mono ?_
        rintro e'' w5 ⟨rfl, hb6⟩
        have hE7 := hE6.below hb6
        obtain ⟨e0, e1, e2, e3, e4⟩ := hE7.cells
        obtain ⟨y0, y1, y2, y3, y4⟩ := hE7.frozen
        have hs9 := hE7.lt
        have HRL : Hid (ChRel xb rb lv k F res w w1.heap.size 0 (.iface 101 (.pointer (some ⟨b, 0, none⟩))) (((((w5.setCell ⟨w1.heap.size, 0, none⟩ (.string ⟨#[]⟩)).setCell ⟨w1.heap.size, 1, none⟩ (.string ⟨#[]⟩)).setCell ⟨w1.heap.size, 2, none⟩ (.int .i64 0)).setCell ⟨w1.heap.size, 3, none⟩ (.slice none 0 0)).setCell ⟨w1.heap.size, 4, none⟩ (.int .i64 0))) :=
          Lib.hid (.inr ⟨c, q, b, rfl, HRE.out, by omega, (hA6.below hb6).far5 (by omega) _ _ _ _ _, (hB6.below hb6).far5 (by omega) _ _ _ _ _, (hF6.onB hF6.size hb6).set5 (by omega) _ _ _ _ _⟩)
        clear hE7 hA6 hB6 hE6 hF6 hb6
        go_wp2
        go_roundg 0
        case measure => exact hpos
        case rel => exact HRL.out
      | ok y r2 =>
        rw [hft] at hp
        obtain ⟨o2, nm2, n2, A2, ll2, cap2, p2, rfl, hC, hX5, hF5⟩ := hp
        have hE5 := hE4.fr hF5 (by omega)
        have hB5 := hB4.fr hF5 (by omega)
        have hD5 := hD4.fr hF5 (by omega)
        obtain ⟨e0, e1, e2, e3, e4⟩ := hE5.cells
        obtain ⟨y0, y1, y2, y3, y4⟩ := hE5.frozen
        obtain ⟨q0, q1, q2, q3, q4⟩ := hD5.cells
        obtain ⟨x0, x1, x2, x3, x4⟩ := hD5.frozen
        have hs7 := hE5.lt
        have hs8 := hD5.lt
        have hne1 : w1.heap.size ≠ w3.heap.size := by omega
        have hne2 : w3.heap.size ≠ w1.heap.size := by omega
        have HE5 := Lib.hid hE5
        have HB5 := Lib.hid hB5
        have HD5 := Lib.hid hD5
        have HX5 := Lib.hid hX5
        have HH5 := Lib.hid (hH4.frS hF5 (by omega))
        have HC5 := Lib.hid (show HS w4 57 (fun j => w.heap.size < j ∧ j ≠ w1.heap.size ∧ j ≠ w3.heap.size) y (exC o2 nm2 n2 A2 ll2 cap2 p2) from hC.wide (fun j _ hj => by unfold Rg at hj; omega))
        have HF5 := Lib.hid (hF4.on hF4.size hF5)
        obtain ⟨hgo, hlt⟩ := chain_go (k := k) (e := e) HSH.out HSG.out hft
        have HRE := Lib.hid (HCH.out.trans hgo)
        have HLT := Lib.hid hlt
        clear hE5 hB5 hD5 hC hF5 hX5 hX4 hE4 hB4 hD4 hH4 hF4 hft hgo hlt
        go_wp2_with fail
        refine calls_gen (P := fun W3 => XR W3 xb rb r2 lv ∧ Box W3 w.heap.size (.string ⟨#[]⟩) (.string ⟨#[]⟩) (.int .i64 0) (.slice none 0 0) (.int .i64 0) ∧ Box W3 w1.heap.size (.string o) (.string nm) (.int .i64 n) (.slice A ll cap) (.int .i64 p) ∧ HS W3 57 (fun j => w.heap.size < j ∧ j ≠ w1.heap.size ∧ j ≠ w3.heap.size) e (exC o nm n A ll cap p) ∧ HS W3 57 (fun j => w.heap.size < j ∧ j ≠ w1.heap.size ∧ j ≠ w3.heap.size) y (exC o2 nm2 n2 A2 ll2 cap2 p2) ∧ Fr w.heap.size rb w W3 ∧ w3.heap.size < W3.heap.size) ⟨HX5.out.set5 HD5.out (by omega) _ _ _ _ _, HB5.out.far5 (by omega) _ _ _ _ _, HE5.out.far5 hne1 _ _ _ _ _, HH5.out.far5S (by omega) _ _ _ _ _, HC5.out.far5S (by omega) _ _ _ _ _, HF5.out.set5 (by omega) _ _ _ _ _, by simpa using hs8⟩ ?_
        rintro W3 ⟨hX6, hB6, hE6, hH6, hC6, hF6, hs9⟩
        have hs10 := hE6.lt
        refine (joined_ok (hd r).text W3 hH6 hC6 (fun j hj => by omega)).mono ?_
        rintro e'' w5 ⟨g, rfl, hJ, hb6⟩
        have hE7 := hE6.below hb6
        obtain ⟨e0, e1, e2, e3, e4⟩ := hE7.cells
        obtain ⟨y0, y1, y2, y3, y4⟩ := hE7.frozen
        have hs11 := hE7.lt
        have HRL : Hid (ChRel xb rb lv k F res w w1.heap.size r2.length .nilIface (((((w5.setCell ⟨w1.heap.size, 0, none⟩ (.string ⟨(hd r).text.toArray⟩)).setCell ⟨w1.heap.size, 1, none⟩ (.string ⟨#[]⟩)).setCell ⟨w1.heap.size, 2, none⟩ (.int .i64 0)).setCell ⟨w1.heap.size, 3, none⟩ (.slice (some ⟨g, 0, none⟩) 2 2)).setCell ⟨w1.heap.size, 4, none⟩ (.int .i64 p))) :=
          Lib.hid (.inl ⟨.bin (hd r).text e y e.pos, r2, _, _, _, _, _, _, _, rfl, HRE.out, rfl, List.length_pos_iff.2 hX6.fine.ne, (hJ.far5S (by omega) _ _ _ _ _).wide (fun j _ hj => ⟨hj.1, hj.2.1⟩), hE7.set5 _ _ _ _ _, (hB6.below hb6).far5 (by omega) _ _ _ _ _, (hX6.below hb6).set5 hE7 (by omega) _ _ _ _ _, (hF6.onB hF6.size hb6).set5 (by omega) _ _ _ _ _⟩)
        clear hE7 hJ hB6 hE6 hF6 hb6 hX6 hH6 hC6
        go_wp2
        go_roundg r2.length
        case measure => exact HLT.out
        case rel => exact HRL.out
end Go.Proofs.YtodijgndbjfbgaaGreatDoor
