/-
  A level deeper, walked. Signs, two sides joined, what stands in parentheses, an atom, what has a sign ahead: walked.
-/
import Derived.Test.YtodijgndbjfbgaaGreatDoorWA
namespace Go.Proofs.YtodijgndbjfbgaaGreatDoor
section
open Go.RowKit
theorem XR.lev {w : World} {xb rb lv l : Nat} {us : List Tok} (h : XR w xb rb us lv) (hl : l ≤ 64) {v : Int} (hv : v = (l : Int)) : XR (w.setCell ⟨xb, 1, none⟩ (.int .i64 v)) xb rb us l := by
  subst hv
  refine ⟨?_, h.fine, ?_, ?_, hl, h.hi⟩
  · obtain ⟨ts, k, h1, h2⟩ := h.rd
    exact ⟨ts, k, h1, h2.set h.blk (by decide) (by decide) _⟩
  · have := blk_set (i := 1) h.blk (.int .i64 (l : Int))
    simpa using this
  · exact glob_keep h.glob (Below.heap_setCell w ⟨xb, 1, none⟩ _ 0 (by have := h.hi; show 0 ≠ xb; omega)) (Below.heap_setCell w ⟨xb, 1, none⟩ _ 3 (by have := h.hi; show 3 ≠ xb; omega))
theorem fr_deep {w W w1 : World} {xb rb l : Nat} (h1 : Fr w.heap.size xb w W) (h2 : Fr W.heap.size rb W w1) (hx : w.heap[xb]? = some (.cells #[.pointer (some ⟨rb, 0, none⟩), .int .i64 ((l + 1 : Nat) : Int)] 246 (0, 0)))
    (hx1 : w1.heap[xb]? = some (.cells #[.pointer (some ⟨rb, 0, none⟩), .int .i64 (l : Int)] 246 (0, 0))) {v : Int} (hv : v = ((l + 1 : Nat) : Int)) : Fr w.heap.size rb w (w1.setCell ⟨xb, 1, none⟩ (.int .i64 v)) := by
  subst hv
  refine ⟨h2.os.trans h1.os, h2.tape.trans h1.tape, h2.output.trans h1.output, by simpa using Nat.le_trans h1.size h2.size, fun k hk hn => ?_⟩
  by_cases hkx : k = xb
  · subst hkx
    rw [hx]
    have := blk_set (i := 1) hx1 (.int .i64 ((l + 1 : Nat) : Int))
    simpa using this
  · rw [Below.heap_setCell w1 ⟨xb, 1, none⟩ _ k hkx, h2.block k (by have := h1.size; omega) hn, h1.block k hk hkx]
theorem AtE.far {w : World} {b : Nat} {p n : Int} (h : AtE w b p n) {a : Addr} (ha : b ≠ a.block) (u : Value) : AtE (w.setCell a u) b p n := h.keep (Below.heap_setCell w a u b ha)
theorem AtE.far5 {w : World} {b b' : Nat} {p n : Int} (h : AtE w b p n) (ha : b ≠ b') (x0 x1 x2 x3 x4 : Value) : AtE (((((w.setCell ⟨b', 0, none⟩ x0).setCell ⟨b', 1, none⟩ x1).setCell ⟨b', 2, none⟩ x2).setCell ⟨b', 3, none⟩ x3).setCell ⟨b', 4, none⟩ x4) b p n :=
  ((((h.far (a := ⟨b', 0, none⟩) ha _).far (a := ⟨b', 1, none⟩) ha _).far (a := ⟨b', 2, none⟩) ha _).far (a := ⟨b', 3, none⟩) ha _).far (a := ⟨b', 4, none⟩) ha _
theorem AtE.alloc {w : World} {b : Nat} {p n : Int} (h : AtE w b p n) (o : Obj) : AtE (w.alloc o) b p n := h.below ((Below.refl _ _).alloc (Nat.le_refl _) _)
theorem AtE.new {w : World} {b : Nat} (hb : b = w.heap.size) (p n : Int) : AtE (w.alloc (.cells #[.int .i64 p, .iface 61 (.int .i64 n)] 104)) b p n := by
  subst hb
  have h := heap_alloc_new w (.cells #[.int .i64 p, .iface 61 (.int .i64 n)] 104)
  exact ⟨(rd_cell h 0).trans rfl, (rd_cell h 1).trans rfl, ⟨_, h⟩⟩
set_option maxHeartbeats 1000000 in
theorem deeper_no {xb rb : Nat} {us : List Tok} (w : World) (h : XR w xb rb us 0) (f : FuncId) (cap : Array Value) : Calls Tryz.prog 159 #[.pointer (some ⟨xb, 0, none⟩), .func (.func f) cap #[]] w (PP xb rb 0 (deepX us) w) := by
  obtain ⟨c0, c1, f1⟩ := h.cells
  have hx := h.ltx
  have hf0 := field0
  have hf1 := field1
  have hf2 := field2
  have H := Lib.hid (fun (W : World) (hb : Below w.heap.size w W) => (h.below hb).peek)
  clear h
  go_enter Tryz.func159, Tryz.ntmps159
  go_wp2_with fail
  refine calls_gen (P := fun W => Box W w.heap.size (.string ⟨#[]⟩) (.string ⟨#[]⟩) (.int .i64 0) (.slice none 0 0) (.int .i64 0) ∧ Below w.heap.size w W) ⟨Box.new _ _ _ _ _ _, (Below.refl _ _).alloc (Nat.le_refl _) _⟩ ?_
  rintro W ⟨hB, hF⟩
  refine (H.out W hF).mono ?_
  rintro e w1 ⟨rfl, hb⟩
  have hs := hB.lt
  have hB1 := hB.below hb
  obtain ⟨b0, b1, b2, b3, b4⟩ := hB1.cells
  obtain ⟨z0, z1, z2, z3, z4⟩ := hB1.frozen
  have hs1 := hB1.lt
  have HB1 := Lib.hid hB1
  have HF := Lib.hid (hF.trans (hb.mono hF.size))
  clear hB hF hb hB1
  go_wp2
  obtain ⟨d0, d1, d2, d3, d4⟩ := ((HB1.out.set5 (.string ⟨#[]⟩) (.string ⟨#[]⟩) (.int .i64 0) (.slice none 0 0) (.int .i64 0)).alloc (.cells #[.int .i64 (hd us).pos, .iface 61 (.int .i64 21)] 104)).cells
  refine bodyPost_ret (v := .tuple #[.agg #[.string ⟨#[]⟩, .string ⟨#[]⟩, .int .i64 0, .slice none 0 0, .int .i64 0], .iface 101 (.pointer (some ⟨w1.heap.size, 0, none⟩))]) (by simp [results, Tryz.results159, go_sem, d0, d1, d2, d3, d4]) rfl ⟨w1.heap.size, rfl, by omega, ?_, ?_⟩
  · exact AtE.new (by simp) _ _
  · exact ((Fr.of HF.out).set5 (Nat.le_refl _) _ _ _ _ _).alloc (by simp; omega) _
set_option maxHeartbeats 1000000 in
theorem deeper_choice {xb rb l : Nat} {us : List Tok} {F : List Tok → PR} (hF : RC 160 F l) (w : World) (h : XR w xb rb us (l + 1)) : Calls Tryz.prog 159 #[.pointer (some ⟨xb, 0, none⟩), .func (.func 160) #[.pointer (some ⟨xb, 0, none⟩)] #[]] w (PP xb rb (l + 1) (F us) w) := by
  obtain ⟨c0, c1, f1⟩ := h.cells
  have hx := h.ltx
  have hr := h.ltr
  have hne := h.ne
  have hl : l ≤ 63 := by have := h.lv64; omega
  have g0 : (((l + 1 : Nat) : Int) == 0) = false := by rw [beq_eq_false_iff_ne]; omega
  have H := Lib.hid hF
  have HX := Lib.hid h
  have HK := Lib.hid h.blk
  clear h hF
  go_enter Tryz.func159, Tryz.ntmps159
  go_wp2_with fail
  refine calls_gen (P := fun W => XR W xb rb us l ∧ Box W w.heap.size (.string ⟨#[]⟩) (.string ⟨#[]⟩) (.int .i64 0) (.slice none 0 0) (.int .i64 0) ∧ Fr w.heap.size xb w W) ⟨(HX.out.lev (by omega) rfl).alloc _, ?_, ?_⟩ ?_
  · have := Box.new (w.setCell ⟨xb, 1, none⟩ (.int .i64 (l : Int))) (.string ⟨#[]⟩) (.string ⟨#[]⟩) (.int .i64 0) (.slice none 0 0) (.int .i64 0)
    simpa using this
  · exact ((Fr.refl w.heap.size xb w).setCell (p := ⟨xb, 1, none⟩) (.inr rfl) _).alloc (by simp) _
  rintro W ⟨hX, hB, hF⟩
  refine (H.out xb rb W us hX).mono ?_
  intro e w1 hp
  clear c0 c1 f1
  have hs := hB.lt
  cases hres : F us with
  | ok x r =>
    rw [hres] at hp
    obtain ⟨o, nm, n, A, ll, cap, p, rfl, hC, hX1, hF1⟩ := hp
    have hB1 := hB.fr hF1 (by omega)
    obtain ⟨b0, b1, b2, b3, b4⟩ := hB1.cells
    obtain ⟨z0, z1, z2, z3, z4⟩ := hB1.frozen
    have hs1 := hB1.lt
    obtain ⟨c0, c1, f1⟩ := hX1.cells
    have hx1 := hX1.ltx
    have hxw : w.heap.size ≠ xb := by omega
    have HB1 := Lib.hid hB1
    have HX1 := Lib.hid hX1
    have HK1 := Lib.hid hX1.blk
    have HC := Lib.hid hC
    have HF := Lib.hid hF
    have HF1 := Lib.hid hF1
    have HR := Lib.hid hres
    clear hB1 hX1 hC hF hF1 hX hB hres
    go_wp2
    have hE : ((l : Int) + 1) = ((l + 1 : Nat) : Int) := by omega
    have hBx := HB1.out.far (p := ⟨xb, 1, none⟩) hxw (.int .i64 ((l : Int) + 1))
    obtain ⟨d0, d1, d2, d3, d4⟩ := ((hBx.set5 (.string o) (.string nm) (.int .i64 n) (.slice A ll cap) (.int .i64 p)).alloc (.cells #[.string o, .string nm, .int .i64 n, .slice A ll cap, .int .i64 p] 57)).cells
    rw [HR.out]
    refine bodyPost_ret (v := .tuple #[.agg #[.string o, .string nm, .int .i64 n, .slice A ll cap, .int .i64 p], .nilIface]) (by simp [results, Tryz.results159, go_sem, d0, d1, d2, d3, d4]) rfl ⟨o, nm, n, A, ll, cap, p, rfl, ?_, ?_, ?_⟩
    · exact (((HC.out.setCell (p := ⟨xb, 1, none⟩) (.inl (by show xb < _; omega)) _).far5 (by omega) _ _ _ _ _).alloc _).mono (by omega) (by simp)
    · exact ((HX1.out.lev (l := l + 1) (by omega) hE).set5 hBx (by omega) _ _ _ _ _).alloc _
    · exact ((fr_deep HF.out HF1.out HK.out HK1.out hE).set5 (Nat.le_refl _) _ _ _ _ _).alloc (by simp; omega) _
  | er c q =>
    rw [hres] at hp
    obtain ⟨b, rfl, hbb, hA, hF1⟩ := hp
    have hB1 := hB.fr hF1 (by omega)
    obtain ⟨b0, b1, b2, b3, b4⟩ := hB1.cells
    obtain ⟨z0, z1, z2, z3, z4⟩ := hB1.frozen
    have hs1 := hB1.lt
    have hK1 := (hF1.block xb (by omega) hne).trans hX.blk
    have c0 := (rd_cell hK1 0).trans rfl
    have c1 := (rd_cell hK1 1).trans rfl
    have f1 := rd_frozen hK1 1
    have hx1 : xb < w1.heap.size := blk_lt hK1
    have hxw : w.heap.size ≠ xb := by omega
    have HB1 := Lib.hid hB1
    have HK1 := Lib.hid hK1
    have HA := Lib.hid hA
    have HF := Lib.hid hF
    have HF1 := Lib.hid hF1
    have HR := Lib.hid hres
    clear hB1 hA hF hF1 hX hB hres hK1
    go_wp2
    have hE : ((l : Int) + 1) = ((l + 1 : Nat) : Int) := by omega
    have hBx := HB1.out.far (p := ⟨xb, 1, none⟩) hxw (.int .i64 ((l : Int) + 1))
    obtain ⟨d0, d1, d2, d3, d4⟩ := ((hBx.set5 (.string ⟨#[]⟩) (.string ⟨#[]⟩) (.int .i64 0) (.slice none 0 0) (.int .i64 0)).alloc (.cells #[.string ⟨#[]⟩, .string ⟨#[]⟩, .int .i64 0, .slice none 0 0, .int .i64 0] 57)).cells
    rw [HR.out]
    refine bodyPost_ret (v := .tuple #[.agg #[.string ⟨#[]⟩, .string ⟨#[]⟩, .int .i64 0, .slice none 0 0, .int .i64 0], .iface 101 (.pointer (some ⟨b, 0, none⟩))]) (by simp [results, Tryz.results159, go_sem, d0, d1, d2, d3, d4]) rfl ⟨b, rfl, by omega, ?_, ?_⟩
    · exact ((HA.out.far (a := ⟨xb, 1, none⟩) (by show b ≠ xb; omega) _).far5 (by omega) _ _ _ _ _).alloc _
    · exact ((fr_deep HF.out HF1.out HK.out HK1.out hE).set5 (Nat.le_refl _) _ _ _ _ _).alloc (by simp; omega) _
set_option maxHeartbeats 1000000 in
theorem deeper_impl {xb rb l : Nat} {us : List Tok} {F : List Tok → PR} (hF : RC 169 F l) (w : World) (h : XR w xb rb us (l + 1)) : Calls Tryz.prog 159 #[.pointer (some ⟨xb, 0, none⟩), .func (.func 169) #[.pointer (some ⟨xb, 0, none⟩)] #[]] w (PP xb rb (l + 1) (F us) w) := by
  obtain ⟨c0, c1, f1⟩ := h.cells
  have hx := h.ltx
  have hr := h.ltr
  have hne := h.ne
  have hl : l ≤ 63 := by have := h.lv64; omega
  have g0 : (((l + 1 : Nat) : Int) == 0) = false := by rw [beq_eq_false_iff_ne]; omega
  have H := Lib.hid hF
  have HX := Lib.hid h
  have HK := Lib.hid h.blk
  clear h hF
  go_enter Tryz.func159, Tryz.ntmps159
  go_wp2_with fail
  refine calls_gen (P := fun W => XR W xb rb us l ∧ Box W w.heap.size (.string ⟨#[]⟩) (.string ⟨#[]⟩) (.int .i64 0) (.slice none 0 0) (.int .i64 0) ∧ Fr w.heap.size xb w W) ⟨(HX.out.lev (by omega) rfl).alloc _, ?_, ?_⟩ ?_
  · have := Box.new (w.setCell ⟨xb, 1, none⟩ (.int .i64 (l : Int))) (.string ⟨#[]⟩) (.string ⟨#[]⟩) (.int .i64 0) (.slice none 0 0) (.int .i64 0)
    simpa using this
  · exact ((Fr.refl w.heap.size xb w).setCell (p := ⟨xb, 1, none⟩) (.inr rfl) _).alloc (by simp) _
  rintro W ⟨hX, hB, hF⟩
  refine (H.out xb rb W us hX).mono ?_
  intro e w1 hp
  clear c0 c1 f1
  have hs := hB.lt
  cases hres : F us with
  | ok x r =>
    rw [hres] at hp
    obtain ⟨o, nm, n, A, ll, cap, p, rfl, hC, hX1, hF1⟩ := hp
    have hB1 := hB.fr hF1 (by omega)
    obtain ⟨b0, b1, b2, b3, b4⟩ := hB1.cells
    obtain ⟨z0, z1, z2, z3, z4⟩ := hB1.frozen
    have hs1 := hB1.lt
    obtain ⟨c0, c1, f1⟩ := hX1.cells
    have hx1 := hX1.ltx
    have hxw : w.heap.size ≠ xb := by omega
    have HB1 := Lib.hid hB1
    have HX1 := Lib.hid hX1
    have HK1 := Lib.hid hX1.blk
    have HC := Lib.hid hC
    have HF := Lib.hid hF
    have HF1 := Lib.hid hF1
    have HR := Lib.hid hres
    clear hB1 hX1 hC hF hF1 hX hB hres
    go_wp2
    have hE : ((l : Int) + 1) = ((l + 1 : Nat) : Int) := by omega
    have hBx := HB1.out.far (p := ⟨xb, 1, none⟩) hxw (.int .i64 ((l : Int) + 1))
    obtain ⟨d0, d1, d2, d3, d4⟩ := ((hBx.set5 (.string o) (.string nm) (.int .i64 n) (.slice A ll cap) (.int .i64 p)).alloc (.cells #[.string o, .string nm, .int .i64 n, .slice A ll cap, .int .i64 p] 57)).cells
    rw [HR.out]
    refine bodyPost_ret (v := .tuple #[.agg #[.string o, .string nm, .int .i64 n, .slice A ll cap, .int .i64 p], .nilIface]) (by simp [results, Tryz.results159, go_sem, d0, d1, d2, d3, d4]) rfl ⟨o, nm, n, A, ll, cap, p, rfl, ?_, ?_, ?_⟩
    · exact (((HC.out.setCell (p := ⟨xb, 1, none⟩) (.inl (by show xb < _; omega)) _).far5 (by omega) _ _ _ _ _).alloc _).mono (by omega) (by simp)
    · exact ((HX1.out.lev (l := l + 1) (by omega) hE).set5 hBx (by omega) _ _ _ _ _).alloc _
    · exact ((fr_deep HF.out HF1.out HK.out HK1.out hE).set5 (Nat.le_refl _) _ _ _ _ _).alloc (by simp; omega) _
  | er c q =>
    rw [hres] at hp
    obtain ⟨b, rfl, hbb, hA, hF1⟩ := hp
    have hB1 := hB.fr hF1 (by omega)
    obtain ⟨b0, b1, b2, b3, b4⟩ := hB1.cells
    obtain ⟨z0, z1, z2, z3, z4⟩ := hB1.frozen
    have hs1 := hB1.lt
    have hK1 := (hF1.block xb (by omega) hne).trans hX.blk
    have c0 := (rd_cell hK1 0).trans rfl
    have c1 := (rd_cell hK1 1).trans rfl
    have f1 := rd_frozen hK1 1
    have hx1 : xb < w1.heap.size := blk_lt hK1
    have hxw : w.heap.size ≠ xb := by omega
    have HB1 := Lib.hid hB1
    have HK1 := Lib.hid hK1
    have HA := Lib.hid hA
    have HF := Lib.hid hF
    have HF1 := Lib.hid hF1
    have HR := Lib.hid hres
    clear hB1 hA hF hF1 hX hB hres hK1
    go_wp2
    have hE : ((l : Int) + 1) = ((l + 1 : Nat) : Int) := by omega
    have hBx := HB1.out.far (p := ⟨xb, 1, none⟩) hxw (.int .i64 ((l : Int) + 1))
    obtain ⟨d0, d1, d2, d3, d4⟩ := ((hBx.set5 (.string ⟨#[]⟩) (.string ⟨#[]⟩) (.int .i64 0) (.slice none 0 0) (.int .i64 0)).alloc (.cells #[.string ⟨#[]⟩, .string ⟨#[]⟩, .int .i64 0, .slice none 0 0, .int .i64 0] 57)).cells
    rw [HR.out]
    refine bodyPost_ret (v := .tuple #[.agg #[.string ⟨#[]⟩, .string ⟨#[]⟩, .int .i64 0, .slice none 0 0, .int .i64 0], .iface 101 (.pointer (some ⟨b, 0, none⟩))]) (by simp [results, Tryz.results159, go_sem, d0, d1, d2, d3, d4]) rfl ⟨b, rfl, by omega, ?_, ?_⟩
    · exact ((HA.out.far (a := ⟨xb, 1, none⟩) (by show b ≠ xb; omega) _).far5 (by omega) _ _ _ _ _).alloc _
    · exact ((fr_deep HF.out HF1.out HK.out HK1.out hE).set5 (Nat.le_refl _) _ _ _ _ _).alloc (by simp; omega) _
set_option maxHeartbeats 1000000 in
theorem deeper_neg {xb rb l : Nat} {us : List Tok} {F : List Tok → PR} (hF : RC 178 F l) (w : World) (h : XR w xb rb us (l + 1)) : Calls Tryz.prog 159 #[.pointer (some ⟨xb, 0, none⟩), .func (.func 178) #[.pointer (some ⟨xb, 0, none⟩)] #[]] w (PP xb rb (l + 1) (F us) w) := by
  obtain ⟨c0, c1, f1⟩ := h.cells
  have hx := h.ltx
  have hr := h.ltr
  have hne := h.ne
  have hl : l ≤ 63 := by have := h.lv64; omega
  have g0 : (((l + 1 : Nat) : Int) == 0) = false := by rw [beq_eq_false_iff_ne]; omega
  have H := Lib.hid hF
  have HX := Lib.hid h
  have HK := Lib.hid h.blk
  clear h hF
  go_enter Tryz.func159, Tryz.ntmps159
  go_wp2_with fail
  refine calls_gen (P := fun W => XR W xb rb us l ∧ Box W w.heap.size (.string ⟨#[]⟩) (.string ⟨#[]⟩) (.int .i64 0) (.slice none 0 0) (.int .i64 0) ∧ Fr w.heap.size xb w W) ⟨(HX.out.lev (by omega) rfl).alloc _, ?_, ?_⟩ ?_
  · have := Box.new (w.setCell ⟨xb, 1, none⟩ (.int .i64 (l : Int))) (.string ⟨#[]⟩) (.string ⟨#[]⟩) (.int .i64 0) (.slice none 0 0) (.int .i64 0)
    simpa using this
  · exact ((Fr.refl w.heap.size xb w).setCell (p := ⟨xb, 1, none⟩) (.inr rfl) _).alloc (by simp) _
  rintro W ⟨hX, hB, hF⟩
  refine (H.out xb rb W us hX).mono ?_
  intro e w1 hp
  clear c0 c1 f1
  have hs := hB.lt
  cases hres : F us with
  | ok x r =>
    rw [hres] at hp
    obtain ⟨o, nm, n, A, ll, cap, p, rfl, hC, hX1, hF1⟩ := hp
    have hB1 := hB.fr hF1 (by omega)
    obtain ⟨b0, b1, b2, b3, b4⟩ := hB1.cells
    obtain ⟨z0, z1, z2, z3, z4⟩ := hB1.frozen
    have hs1 := hB1.lt
    obtain ⟨c0, c1, f1⟩ := hX1.cells
    have hx1 := hX1.ltx
    have hxw : w.heap.size ≠ xb := by omega
    have HB1 := Lib.hid hB1
    have HX1 := Lib.hid hX1
    have HK1 := Lib.hid hX1.blk
    have HC := Lib.hid hC
    have HF := Lib.hid hF
    have HF1 := Lib.hid hF1
    have HR := Lib.hid hres
    clear hB1 hX1 hC hF hF1 hX hB hres
    go_wp2
    have hE : ((l : Int) + 1) = ((l + 1 : Nat) : Int) := by omega
    have hBx := HB1.out.far (p := ⟨xb, 1, none⟩) hxw (.int .i64 ((l : Int) + 1))
    obtain ⟨d0, d1, d2, d3, d4⟩ := ((hBx.set5 (.string o) (.string nm) (.int .i64 n) (.slice A ll cap) (.int .i64 p)).alloc (.cells #[.string o, .string nm, .int .i64 n, .slice A ll cap, .int .i64 p] 57)).cells
    rw [HR.out]
    refine bodyPost_ret (v := .tuple #[.agg #[.string o, .string nm, .int .i64 n, .slice A ll cap, .int .i64 p], .nilIface]) (by simp [results, Tryz.results159, go_sem, d0, d1, d2, d3, d4]) rfl ⟨o, nm, n, A, ll, cap, p, rfl, ?_, ?_, ?_⟩
    · exact (((HC.out.setCell (p := ⟨xb, 1, none⟩) (.inl (by show xb < _; omega)) _).far5 (by omega) _ _ _ _ _).alloc _).mono (by omega) (by simp)
    · exact ((HX1.out.lev (l := l + 1) (by omega) hE).set5 hBx (by omega) _ _ _ _ _).alloc _
    · exact ((fr_deep HF.out HF1.out HK.out HK1.out hE).set5 (Nat.le_refl _) _ _ _ _ _).alloc (by simp; omega) _
  | er c q =>
    rw [hres] at hp
    obtain ⟨b, rfl, hbb, hA, hF1⟩ := hp
    have hB1 := hB.fr hF1 (by omega)
    obtain ⟨b0, b1, b2, b3, b4⟩ := hB1.cells
    obtain ⟨z0, z1, z2, z3, z4⟩ := hB1.frozen
    have hs1 := hB1.lt
    have hK1 := (hF1.block xb (by omega) hne).trans hX.blk
    have c0 := (rd_cell hK1 0).trans rfl
    have c1 := (rd_cell hK1 1).trans rfl
    have f1 := rd_frozen hK1 1
    have hx1 : xb < w1.heap.size := blk_lt hK1
    have hxw : w.heap.size ≠ xb := by omega
    have HB1 := Lib.hid hB1
    have HK1 := Lib.hid hK1
    have HA := Lib.hid hA
    have HF := Lib.hid hF
    have HF1 := Lib.hid hF1
    have HR := Lib.hid hres
    clear hB1 hA hF hF1 hX hB hres hK1
    go_wp2
    have hE : ((l : Int) + 1) = ((l + 1 : Nat) : Int) := by omega
    have hBx := HB1.out.far (p := ⟨xb, 1, none⟩) hxw (.int .i64 ((l : Int) + 1))
    obtain ⟨d0, d1, d2, d3, d4⟩ := ((hBx.set5 (.string ⟨#[]⟩) (.string ⟨#[]⟩) (.int .i64 0) (.slice none 0 0) (.int .i64 0)).alloc (.cells #[.string ⟨#[]⟩, .string ⟨#[]⟩, .int .i64 0, .slice none 0 0, .int .i64 0] 57)).cells
    rw [HR.out]
    refine bodyPost_ret (v := .tuple #[.agg #[.string ⟨#[]⟩, .string ⟨#[]⟩, .int .i64 0, .slice none 0 0, .int .i64 0], .iface 101 (.pointer (some ⟨b, 0, none⟩))]) (by simp [results, Tryz.results159, go_sem, d0, d1, d2, d3, d4]) rfl ⟨b, rfl, by omega, ?_, ?_⟩
    · exact ((HA.out.far (a := ⟨xb, 1, none⟩) (by show b ≠ xb; omega) _).far5 (by omega) _ _ _ _ _).alloc _
    · exact ((fr_deep HF.out HF1.out HK.out HK1.out hE).set5 (Nat.le_refl _) _ _ _ _ _).alloc (by simp; omega) _
set_option maxHeartbeats 1000000 in
theorem deeper_minus {xb rb l : Nat} {us : List Tok} {F : List Tok → PR} (hF : RC 183 F l) (w : World) (h : XR w xb rb us (l + 1)) : Calls Tryz.prog 159 #[.pointer (some ⟨xb, 0, none⟩), .func (.func 183) #[.pointer (some ⟨xb, 0, none⟩)] #[]] w (PP xb rb (l + 1) (F us) w) := by
  obtain ⟨c0, c1, f1⟩ := h.cells
  have hx := h.ltx
  have hr := h.ltr
  have hne := h.ne
  have hl : l ≤ 63 := by have := h.lv64; omega
  have g0 : (((l + 1 : Nat) : Int) == 0) = false := by rw [beq_eq_false_iff_ne]; omega
  have H := Lib.hid hF
  have HX := Lib.hid h
  have HK := Lib.hid h.blk
  clear h hF
  go_enter Tryz.func159, Tryz.ntmps159
  go_wp2_with fail
  refine calls_gen (P := fun W => XR W xb rb us l ∧ Box W w.heap.size (.string ⟨#[]⟩) (.string ⟨#[]⟩) (.int .i64 0) (.slice none 0 0) (.int .i64 0) ∧ Fr w.heap.size xb w W) ⟨(HX.out.lev (by omega) rfl).alloc _, ?_, ?_⟩ ?_
  · have := Box.new (w.setCell ⟨xb, 1, none⟩ (.int .i64 (l : Int))) (.string ⟨#[]⟩) (.string ⟨#[]⟩) (.int .i64 0) (.slice none 0 0) (.int .i64 0)
    simpa using this
  · exact ((Fr.refl w.heap.size xb w).setCell (p := ⟨xb, 1, none⟩) (.inr rfl) _).alloc (by simp) _
  rintro W ⟨hX, hB, hF⟩
  refine (H.out xb rb W us hX).mono ?_
  intro e w1 hp
  clear c0 c1 f1
  have hs := hB.lt
  cases hres : F us with
  | ok x r =>
    rw [hres] at hp
    obtain ⟨o, nm, n, A, ll, cap, p, rfl, hC, hX1, hF1⟩ := hp
    have hB1 := hB.fr hF1 (by omega)
    obtain ⟨b0, b1, b2, b3, b4⟩ := hB1.cells
    obtain ⟨z0, z1, z2, z3, z4⟩ := hB1.frozen
    have hs1 := hB1.lt
    obtain ⟨c0, c1, f1⟩ := hX1.cells
    have hx1 := hX1.ltx
    have hxw : w.heap.size ≠ xb := by omega
    have HB1 := Lib.hid hB1
    have HX1 := Lib.hid hX1
    have HK1 := Lib.hid hX1.blk
    have HC := Lib.hid hC
    have HF := Lib.hid hF
    have HF1 := Lib.hid hF1
    have HR := Lib.hid hres
    clear hB1 hX1 hC hF hF1 hX hB hres
    go_wp2
    have hE : ((l : Int) + 1) = ((l + 1 : Nat) : Int) := by omega
    have hBx := HB1.out.far (p := ⟨xb, 1, none⟩) hxw (.int .i64 ((l : Int) + 1))
    obtain ⟨d0, d1, d2, d3, d4⟩ := ((hBx.set5 (.string o) (.string nm) (.int .i64 n) (.slice A ll cap) (.int .i64 p)).alloc (.cells #[.string o, .string nm, .int .i64 n, .slice A ll cap, .int .i64 p] 57)).cells
    rw [HR.out]
    refine bodyPost_ret (v := .tuple #[.agg #[.string o, .string nm, .int .i64 n, .slice A ll cap, .int .i64 p], .nilIface]) (by simp [results, Tryz.results159, go_sem, d0, d1, d2, d3, d4]) rfl ⟨o, nm, n, A, ll, cap, p, rfl, ?_, ?_, ?_⟩
    · exact (((HC.out.setCell (p := ⟨xb, 1, none⟩) (.inl (by show xb < _; omega)) _).far5 (by omega) _ _ _ _ _).alloc _).mono (by omega) (by simp)
    · exact ((HX1.out.lev (l := l + 1) (by omega) hE).set5 hBx (by omega) _ _ _ _ _).alloc _
    · exact ((fr_deep HF.out HF1.out HK.out HK1.out hE).set5 (Nat.le_refl _) _ _ _ _ _).alloc (by simp; omega) _
  | er c q =>
    rw [hres] at hp
    obtain ⟨b, rfl, hbb, hA, hF1⟩ := hp
    have hB1 := hB.fr hF1 (by omega)
    obtain ⟨b0, b1, b2, b3, b4⟩ := hB1.cells
    obtain ⟨z0, z1, z2, z3, z4⟩ := hB1.frozen
    have hs1 := hB1.lt
    have hK1 := (hF1.block xb (by omega) hne).trans hX.blk
    have c0 := (rd_cell hK1 0).trans rfl
    have c1 := (rd_cell hK1 1).trans rfl
    have f1 := rd_frozen hK1 1
    have hx1 : xb < w1.heap.size := blk_lt hK1
    have hxw : w.heap.size ≠ xb := by omega
    have HB1 := Lib.hid hB1
    have HK1 := Lib.hid hK1
    have HA := Lib.hid hA
    have HF := Lib.hid hF
    have HF1 := Lib.hid hF1
    have HR := Lib.hid hres
    clear hB1 hA hF hF1 hX hB hres hK1
    go_wp2
    have hE : ((l : Int) + 1) = ((l + 1 : Nat) : Int) := by omega
    have hBx := HB1.out.far (p := ⟨xb, 1, none⟩) hxw (.int .i64 ((l : Int) + 1))
    obtain ⟨d0, d1, d2, d3, d4⟩ := ((hBx.set5 (.string ⟨#[]⟩) (.string ⟨#[]⟩) (.int .i64 0) (.slice none 0 0) (.int .i64 0)).alloc (.cells #[.string ⟨#[]⟩, .string ⟨#[]⟩, .int .i64 0, .slice none 0 0, .int .i64 0] 57)).cells
    rw [HR.out]
    refine bodyPost_ret (v := .tuple #[.agg #[.string ⟨#[]⟩, .string ⟨#[]⟩, .int .i64 0, .slice none 0 0, .int .i64 0], .iface 101 (.pointer (some ⟨b, 0, none⟩))]) (by simp [results, Tryz.results159, go_sem, d0, d1, d2, d3, d4]) rfl ⟨b, rfl, by omega, ?_, ?_⟩
    · exact ((HA.out.far (a := ⟨xb, 1, none⟩) (by show b ≠ xb; omega) _).far5 (by omega) _ _ _ _ _).alloc _
    · exact ((fr_deep HF.out HF1.out HK.out HK1.out hE).set5 (Nat.le_refl _) _ _ _ _ _).alloc (by simp; omega) _
end
section
open Go.RowKit

theorem heap_new_at {w : World} {k : Nat} (hk : k = w.heap.size) (o : Obj) : (w.alloc o).heap[k]? = some o := by subst hk; exact heap_alloc_new w o
/-- What deeper tells, if it is handed a method that reads so. -/
def DC (f : FuncId) (F : List Tok → PR) (lv : Nat) : Prop := ∀ xb rb w us, XR w xb rb us lv → Calls Tryz.prog 159 #[.pointer (some ⟨xb, 0, none⟩), .func (.func f) #[.pointer (some ⟨xb, 0, none⟩)] #[]] w (PP xb rb lv (F us) w)

section
variable {w : World} {e : TypeId} {S : Nat → Prop}
theorem HS.posn {x : Ex} {o nm : ByteArray} {n : Int} {A : Option Addr} {l cap : Nat} {p : Int} (h : HS w e S x (exC o nm n A l cap p)) : p = (x.pos : Int) ∧ o = ⟨x.op.toArray⟩ := by
  obtain ⟨_, _, _, _, _, h1⟩ := h.form
  simp only [exC, List.cons.injEq, Value.string.injEq, Value.int.injEq] at h1
  exact ⟨h1.2.2.2.2.1.2, h1.1⟩
end
theorem name_rk {us : List Tok} (h : Fine us) (h1 : (hd us).kind = 1) : 8 ≤ rk (hd us).text := by
  obtain ⟨c, r, h2, h3, _⟩ := h.name h1
  have hc : c.toNat = 95 ∨ (65 ≤ c.toNat ∧ c.toNat ≤ 90) ∨ (97 ≤ c.toNat ∧ c.toNat ≤ 122) := by
    simp [letterB] at h3; omega
  have hne : ∀ (d : UInt8) (l : List UInt8), (d.toNat ≠ 95 ∧ ¬ (65 ≤ d.toNat ∧ d.toNat ≤ 90) ∧ ¬ (97 ≤ d.toNat ∧ d.toNat ≤ 122)) → c :: r ≠ d :: l := by
    intro d l hd he
    injection he with he _
    subst he
    omega
  have n1 := hne 63 [] (by decide)
  have n2 := hne 61 [62] (by decide)
  have n3 := hne 124 [] (by decide)
  have n4 := hne 38 [] (by decide)
  have n5 := hne 33 [] (by decide)
  have n6 := hne 61 [] (by decide)
  have n7 := hne 33 [61] (by decide)
  have n8 := hne 60 [] (by decide)
  have n9 := hne 60 [61] (by decide)
  have na := hne 62 [] (by decide)
  have nb := hne 62 [61] (by decide)
  have nc := hne 43 [] (by decide)
  have nd := hne 45 [] (by decide)
  have ne := hne 42 [] (by decide)
  have nf : cmpB (c :: r) = false := by simp only [cmpB, beq_eq_false_iff_ne.2 n6, beq_eq_false_iff_ne.2 n7, beq_eq_false_iff_ne.2 n8, beq_eq_false_iff_ne.2 n9, beq_eq_false_iff_ne.2 na, beq_eq_false_iff_ne.2 nb]; rfl
  rw [h2, rk, if_neg n1, if_neg n2, if_neg n3, if_neg n4, if_neg n5, nf, if_neg (by simp), if_neg (by intro h; exact h.elim nc nd), if_neg ne]
  split <;> omega

set_option maxHeartbeats 1000000 in
theorem sign_no {xb rb lv : Nat} {us : List Tok} (w : World) (h : XR w xb rb us lv) (k : Nat) (hk : k < 8) (hs : sg k (hd us) = false) : Calls Tryz.prog 177 #[.pointer (some ⟨xb, 0, none⟩), .int .i64 (k : Int)] w fun e w' => e = .returned (.tuple #[.string ⟨#[]⟩, .bool false]) ∧ Below w.heap.size w w' := by
  obtain ⟨c0, c1, f1⟩ := h.cells
  have hx := h.ltx
  have hf1 := field1
  have H := Lib.hid h.peek
  have H2 := Lib.hid (fun W : World => rankof_any ⟨(hd us).text.toArray⟩ W)
  by_cases hr : rk (hd us).text = k
  · have hi : isT (hd us) (hd us).text = false := by
      simp [sg, hr] at hs
      simp [isT, hs]
      intro h1
      have := name_rk h.fine h1
      omega
    have H3 := Lib.hid (fun (W : World) (hb : Below w.heap.size w W) => (h.below hb).skip_no ⟨(hd us).text.toArray⟩ hi)
    have HX := Lib.hid (fun (W : World) (hb : Below w.heap.size w W) => (h.below hb).cells)
    have g1 : ((rk (hd us).text : Int) != (k : Int)) = false := by simp [hr]
    clear h hs hi hr c1 f1
    go_enter Tryz.func177, Tryz.ntmps177
    go_wp2_with fail
    with_reducible refine (H.out).mono ?_
    rintro e w1 ⟨rfl, hb⟩
    obtain ⟨c0, _, _⟩ := HX.out w1 hb
    have HB := Lib.hid hb
    clear hb
    go_wp2_with fail
    with_reducible refine (H2.out _).mono ?_
    rintro e w2 ⟨rfl, rfl⟩
    go_wp2_with fail
    with_reducible refine (H3.out _ HB.out).mono ?_
    rintro e w2 ⟨rfl, hb2⟩
    go_wp2
    go_ret2
    exact ⟨rfl, HB.out.trans (hb2.mono HB.out.size)⟩
  · have g1 : ((rk (hd us).text : Int) != (k : Int)) = true := by rw [bne_iff_ne]; omega
    clear h hs hr c1 f1
    go_enter Tryz.func177, Tryz.ntmps177
    go_wp2_with fail
    with_reducible refine (H.out).mono ?_
    rintro e w1 ⟨rfl, hb⟩
    have HB := Lib.hid hb
    clear hb
    go_wp2_with fail
    with_reducible refine (H2.out _).mono ?_
    rintro e w2 ⟨rfl, rfl⟩
    go_wp2
    go_ret2
    exact ⟨rfl, HB.out⟩
set_option maxHeartbeats 1000000 in
theorem sign_yes {xb rb lv : Nat} {us : List Tok} (w : World) (h : XR w xb rb us lv) (k : Nat) (hs : sg k (hd us) = true) : Calls Tryz.prog 177 #[.pointer (some ⟨xb, 0, none⟩), .int .i64 (k : Int)] w fun e w' => e = .returned (.tuple #[.string ⟨(hd us).text.toArray⟩, .bool true]) ∧ XR w' xb rb us.tail lv ∧ Fr w.heap.size rb w w' := by
  obtain ⟨c0, c1, f1⟩ := h.cells
  have hx := h.ltx
  have hf1 := field1
  have H := Lib.hid h.peek
  have H2 := Lib.hid (fun W : World => rankof_any ⟨(hd us).text.toArray⟩ W)
  obtain ⟨h4, hr⟩ := sg_kind hs
  have hi : isT (hd us) (hd us).text = true := by simp [isT, h4]
  have H3 := Lib.hid (fun (W : World) (hb : Below w.heap.size w W) => (h.below hb).skip_yes ⟨(hd us).text.toArray⟩ hi)
  have HX := Lib.hid (fun (W : World) (hb : Below w.heap.size w W) => (h.below hb).cells)
  have g1 : ((rk (hd us).text : Int) != (k : Int)) = false := by simp [hr]
  clear h hs hi hr c1 f1 h4
  go_enter Tryz.func177, Tryz.ntmps177
  go_wp2_with fail
  with_reducible refine (H.out).mono ?_
  rintro e w1 ⟨rfl, hb⟩
  obtain ⟨c0, _, _⟩ := HX.out w1 hb
  have HB := Lib.hid hb
  clear hb
  go_wp2_with fail
  with_reducible refine (H2.out _).mono ?_
  rintro e w2 ⟨rfl, rfl⟩
  go_wp2_with fail
  with_reducible refine (H3.out _ HB.out).mono ?_
  rintro e w2 ⟨rfl, hX2, hF2⟩
  have HX2 := Lib.hid hX2
  clear hX2
  go_wp2
  go_ret2
  exact ⟨rfl, HX2.out, (Fr.of HB.out).on HB.out.size hF2⟩

set_option maxHeartbeats 1000000 in
theorem joined_er (o o1 n1 o2 n2 : ByteArray) (i1 i2 p1 p2 : Int) (A1 A2 : Option Addr) (l1 k1 l2 k2 : Nat) (t : TypeId) (v : Value) (w : World) : Calls Tryz.prog 174 #[.string o, .agg #[.string o1, .string n1, .int .i64 i1, .slice A1 l1 k1, .int .i64 p1], .agg #[.string o2, .string n2, .int .i64 i2, .slice A2 l2 k2, .int .i64 p2], .iface t v] w fun e w' => e = .returned (.tuple #[.agg #[.string ⟨#[]⟩, .string ⟨#[]⟩, .int .i64 0, .slice none 0 0, .int .i64 0], .iface t v]) ∧ Below w.heap.size w w' := by
  go_enter Tryz.func174, Tryz.ntmps174
  go_wp2
  exact bodyPost_ret (v := .tuple #[.agg #[.string ⟨#[]⟩, .string ⟨#[]⟩, .int .i64 0, .slice none 0 0, .int .i64 0], .iface t v]) (by simp [results, Tryz.results174, go_sem]) rfl ⟨rfl, (((Below.refl _ _).alloc (Nat.le_refl _) _).alloc (by simp) _).alloc (by simp; omega) _⟩
theorem bin_hs {w : World} {S : Nat → Prop} {a b : Ex} {op : List UInt8} {o1 n1 o2 n2 : ByteArray} {i1 i2 p1 p2 : Int} {A1 A2 : Option Addr} {l1 k1 l2 k2 g : Nat} (ha : HS w 57 S a (exC o1 n1 i1 A1 l1 k1 p1)) (hb : HS w 57 S b (exC o2 n2 i2 A2 l2 k2 p2)) (hg : S g)
    (hw : w.heap[g]? = some (.cells #[.string o1, .string n1, .int .i64 i1, .slice A1 l1 k1, .int .i64 p1, .string o2, .string n2, .int .i64 i2, .slice A2 l2 k2, .int .i64 p2] 57 (0, 0))) : HS w 57 S (.bin op a b a.pos) (exC ⟨op.toArray⟩ ⟨#[]⟩ 0 (some ⟨g, 0, none⟩) 2 2 p1) := by
  refine ⟨g, 2, _, _, ?_, ⟨hg, _, hw, ?_⟩, ha, hb⟩
  · rw [ha.posn.1]; rfl
  · intro j u hu
    simpa [exC] using hu
set_option maxHeartbeats 1000000 in
theorem joined_ok {S : Nat → Prop} {a b : Ex} (op : List UInt8) {o1 n1 o2 n2 : ByteArray} {i1 i2 p1 p2 : Int} {A1 A2 : Option Addr} {l1 k1 l2 k2 : Nat} (w : World) (ha : HS w 57 S a (exC o1 n1 i1 A1 l1 k1 p1)) (hb : HS w 57 S b (exC o2 n2 i2 A2 l2 k2 p2)) (hS : ∀ k, w.heap.size ≤ k → S k) :
    Calls Tryz.prog 174 #[.string ⟨op.toArray⟩, .agg #[.string o1, .string n1, .int .i64 i1, .slice A1 l1 k1, .int .i64 p1], .agg #[.string o2, .string n2, .int .i64 i2, .slice A2 l2 k2, .int .i64 p2], .nilIface] w fun e w' => ∃ g, e = .returned (.tuple #[.agg #[.string ⟨op.toArray⟩, .string ⟨#[]⟩, .int .i64 0, .slice (some ⟨g, 0, none⟩) 2 2, .int .i64 p1], .nilIface]) ∧ HS w' 57 S (.bin op a b a.pos) (exC ⟨op.toArray⟩ ⟨#[]⟩ 0 (some ⟨g, 0, none⟩) 2 2 p1) ∧ Below w.heap.size w w' := by
  have HA := Lib.hid ha
  have HB := Lib.hid hb
  have HS' := Lib.hid hS
  clear ha hb hS
  go_enter Tryz.func174, Tryz.ntmps174
  go_wp2
  refine bodyPost_ret (v := .tuple #[.agg #[.string ⟨op.toArray⟩, .string ⟨#[]⟩, .int .i64 0, .slice (some ⟨w.heap.size + 1 + 1 + 1, 0, none⟩) 2 2, .int .i64 p1], .nilIface]) (by simp [results, Tryz.results174, go_sem]) rfl ⟨w.heap.size + 1 + 1 + 1, rfl, ?_, ?_⟩
  refine bin_hs (o1 := o1) (n1 := n1) (i1 := i1) (A1 := A1) (l1 := l1) (k1 := k1) (p1 := p1) (o2 := o2) (n2 := n2) (i2 := i2) (A2 := A2) (l2 := l2) (k2 := k2) (p2 := p2) ?_ ?_ (HS'.out _ (by omega)) ?_
  · exact (((HA.out.alloc _).alloc _).alloc _).alloc _
  · exact (((HB.out.alloc _).alloc _).alloc _).alloc _
  · exact heap_new_at (by simp) _
  · exact ((((Below.refl _ _).alloc (Nat.le_refl _) _).alloc (by simp) _).alloc (by simp; omega) _).alloc (by simp; omega) _
set_option maxHeartbeats 1000000 in
theorem enclosed_any {xb rb lv : Nat} {us : List Tok} {F : List Tok → PR} (hD : DC 160 F lv) (w : World) (h : XR w xb rb us lv) (q : Nat) : Calls Tryz.prog 185 #[.pointer (some ⟨xb, 0, none⟩), .int .i64 (q : Int)] w (PP xb rb lv (enclosedX q (F us)) w) := by
  obtain ⟨c0, c1, f1⟩ := h.cells
  have hx := h.ltx
  have hr := h.ltr
  have H := Lib.hid hD
  have HX := Lib.hid h
  clear h hD c0 c1 f1
  go_enter Tryz.func185, Tryz.ntmps185
  go_wp2_with fail
  refine calls_gen (P := fun W => XR W xb rb us lv ∧ Box W w.heap.size (.string ⟨#[]⟩) (.string ⟨#[]⟩) (.int .i64 0) (.slice none 0 0) (.int .i64 0) ∧ Fr w.heap.size rb w W) ⟨HX.out.alloc _, Box.new _ _ _ _ _ _, (Fr.refl _ _ _).alloc (Nat.le_refl _) _⟩ ?_
  rintro W ⟨hX, hB, hF⟩
  refine (H.out xb rb W us hX).mono ?_
  intro e w1 hp
  have hs := hB.lt
  cases hres : F us with
  | er c p =>
    rw [hres] at hp
    obtain ⟨b, rfl, hbb, hA, hF1⟩ := hp
    have HR := Lib.hid (show enclosedX q (F us) = .er c p by rw [hres]; rfl)
    have hB1 := hB.fr hF1 (by omega)
    obtain ⟨b0, b1, b2, b3, b4⟩ := hB1.cells
    obtain ⟨z0, z1, z2, z3, z4⟩ := hB1.frozen
    have hs1 := hB1.lt
    have HB1 := Lib.hid hB1
    have HA := Lib.hid hA
    have HF1 := Lib.hid (hF.on hF.size hF1)
    clear hB1 hA hF hF1 hX hB hres
    go_wp2
    obtain ⟨d0, d1, d2, d3, d4⟩ := ((HB1.out.set5 (.string ⟨#[]⟩) (.string ⟨#[]⟩) (.int .i64 0) (.slice none 0 0) (.int .i64 0)).alloc (.cells #[.string ⟨#[]⟩, .string ⟨#[]⟩, .int .i64 0, .slice none 0 0, .int .i64 0] 57)).cells
    rw [HR.out]
    refine bodyPost_ret (v := .tuple #[.agg #[.string ⟨#[]⟩, .string ⟨#[]⟩, .int .i64 0, .slice none 0 0, .int .i64 0], .iface 101 (.pointer (some ⟨b, 0, none⟩))]) (by simp [results, Tryz.results185, go_sem, d0, d1, d2, d3, d4]) rfl ⟨b, rfl, by omega, ?_, ?_⟩
    · exact (HA.out.far5 (by omega) _ _ _ _ _).alloc _
    · exact (HF1.out.set5 (Nat.le_refl _) _ _ _ _ _).alloc (by simp; omega) _
  | ok x r =>
    rw [hres] at hp
    obtain ⟨o, nm, n, A, ll, cap, p, rfl, hC, hX1, hF1⟩ := hp
    have hB1 := hB.fr hF1 (by omega)
    have hs1 := hB1.lt
    obtain ⟨c0, _, _⟩ := hX1.cells
    have hx1 := hX1.ltx
    have HB1 := Lib.hid hB1
    have HX1 := Lib.hid hX1
    have HC1 := Lib.hid hC
    have HF1 := Lib.hid (hF.on hF.size hF1)
    have HR0 := Lib.hid hres
    clear hB1 hX1 hC hF hF1 hX hB hres
    go_wp2_with fail
    refine calls_gen (P := fun W2 => XR W2 xb rb r lv ∧ Box W2 w.heap.size (.string ⟨#[]⟩) (.string ⟨#[]⟩) (.int .i64 0) (.slice none 0 0) (.int .i64 0) ∧ Box W2 w1.heap.size (.string o) (.string nm) (.int .i64 n) (.slice A ll cap) (.int .i64 p) ∧ HC W2 57 W.heap.size w1.heap.size x (exC o nm n A ll cap p) ∧ Fr w.heap.size rb w W2) ⟨HX1.out.alloc _, HB1.out.alloc _, Box.new _ _ _ _ _ _, HC1.out.alloc _, HF1.out.alloc HF1.out.size _⟩ ?_
    rintro W2 ⟨hX2, hB2, hE2, hC2, hF2⟩
    have hs2 := hE2.lt
    clear c0 hx1
    by_cases hi : isT (hd r) [41] = true
    · refine (hX2.want_yes ⟨#[41]⟩ hi).mono ?_
      rintro e w3 ⟨rfl, hX3, hF3⟩
      have hB3 := hB2.fr hF3 (by omega)
      have hE3 := hE2.fr hF3 (by omega)
      have hC3 := hC2.fr hF3 (by omega)
      have hs3 := hE3.lt
      obtain ⟨b0, b1, b2, b3, b4⟩ := hB3.cells
      obtain ⟨z0, z1, z2, z3, z4⟩ := hB3.frozen
      obtain ⟨e0, e1, e2, e3, e4⟩ := hE3.cells
      obtain ⟨y0, y1, y2, y3, y4⟩ := hE3.frozen
      have hne : w1.heap.size ≠ w.heap.size := by omega
      have hne' : w.heap.size ≠ w1.heap.size := by omega
      have HB3 := Lib.hid hB3
      have HE3 := Lib.hid hE3
      have HC3 := Lib.hid hC3
      have HX3 := Lib.hid hX3
      have HF3 := Lib.hid (hF2.on hF2.size hF3)
      have HR := Lib.hid (show enclosedX q (F us) = .ok (x.move q) r.tail by rw [HR0.out]; simp [enclosedX, hi])
      clear hB2 hE2 hC2 hX2 hF2 hB3 hE3 hC3 hX3 hF3 hi
      go_wp2
      have hBx := HB3.out.far (p := ⟨w1.heap.size, 4, none⟩) hne' (.int .i64 (q : Int))
      obtain ⟨d0, d1, d2, d3, d4⟩ := (hBx.set5 (.string o) (.string nm) (.int .i64 n) (.slice A ll cap) (.int .i64 (q : Int))).cells
      rw [HR.out]
      refine bodyPost_ret (v := .tuple #[.agg #[.string o, .string nm, .int .i64 n, .slice A ll cap, .int .i64 (q : Int)], .nilIface]) (by simp [results, Tryz.results185, go_sem, d0, d1, d2, d3, d4]) rfl ⟨o, nm, n, A, ll, cap, q, rfl, ?_, ?_, ?_⟩
      · exact (((HC3.out.setCell (p := ⟨w1.heap.size, 4, none⟩) (.inr (Nat.le_refl _)) _).far5 (.inl (by omega)) _ _ _ _ _).move q).mono (by omega) (by simp; omega)
      · exact (HX3.out.set HE3.out (by have := HX3.out.hi; omega) _).set5 hBx (by omega) _ _ _ _ _
      · exact (HF3.out.setCell (p := ⟨w1.heap.size, 4, none⟩) (.inl (by show w.heap.size ≤ w1.heap.size; omega)) _).set5 (Nat.le_refl _) _ _ _ _ _
    · have hi' : isT (hd r) [41] = false := by simpa using hi
      refine (hX2.want_no ⟨#[41]⟩ hi').mono ?_
      rintro e w3 ⟨b, rfl, hbb, hA, hb3⟩
      have hB3 := hB2.below hb3
      have hs3 := hB3.lt
      obtain ⟨b0, b1, b2, b3, b4⟩ := hB3.cells
      obtain ⟨z0, z1, z2, z3, z4⟩ := hB3.frozen
      have HB3 := Lib.hid hB3
      have HA := Lib.hid hA
      have HF3 := Lib.hid (hF2.onB hF2.size hb3)
      have HR := Lib.hid (show enclosedX q (F us) = .er 20 (hd r).pos by rw [HR0.out]; simp [enclosedX, hi'])
      clear hB2 hE2 hC2 hX2 hF2 hB3 hi hi' hA hb3
      go_wp2
      obtain ⟨d0, d1, d2, d3, d4⟩ := (HB3.out.set5 (.string ⟨#[]⟩) (.string ⟨#[]⟩) (.int .i64 0) (.slice none 0 0) (.int .i64 0)).cells
      rw [HR.out]
      refine bodyPost_ret (v := .tuple #[.agg #[.string ⟨#[]⟩, .string ⟨#[]⟩, .int .i64 0, .slice none 0 0, .int .i64 0], .iface 101 (.pointer (some ⟨b, 0, none⟩))]) (by simp [results, Tryz.results185, go_sem, d0, d1, d2, d3, d4]) rfl ⟨b, rfl, by omega, ?_, ?_⟩
      · exact HA.out.far5 (by omega) _ _ _ _ _
      · exact HF3.out.set5 (Nat.le_refl _) _ _ _ _ _
end
end Go.Proofs.YtodijgndbjfbgaaGreatDoor
