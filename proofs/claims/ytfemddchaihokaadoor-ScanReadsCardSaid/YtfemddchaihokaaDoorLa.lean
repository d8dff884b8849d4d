/-
  A reader: what it skips, wants and takes.
-/
import Derived.Test.YtfemddchaihokaaDoorL9
namespace Go.Proofs.YtfemddchaihokaaDoor
open Go.RowKit

theorem field0 (a b c : Value) (w : World) : (Instr.field 34 (.agg #[a, b, c]) 0).run Tryd.prog w = .ok a w := by kernel_rfl
theorem field1 (a b c : Value) (w : World) : (Instr.field 34 (.agg #[a, b, c]) 1).run Tryd.prog w = .ok b w := by kernel_rfl
theorem field2 (a b c : Value) (w : World) : (Instr.field 34 (.agg #[a, b, c]) 2).run Tryd.prog w = .ok c w := by kernel_rfl
theorem glob_grown {w w1 : World} {rb : Nat} {ts : List Tok} {k : Nat} (hG : GlobS w) (hR : RD w rb ts k) (hg : w.grownBy w1 (some rb)) : GlobS w1 := by
  obtain ⟨g, cap, h1, _⟩ := hR
  have r0 := rd_cell h1 0
  simp only [List.getElem?_toArray, List.getElem?_cons_zero] at r0
  have hcell : ∀ (b : Nat) (te : TypeId) (pe : Value), w.cell? ⟨b, 0, none⟩ = some (.iface te pe) → w1.cell? ⟨b, 0, none⟩ = some (.iface te pe) := by
    intro b te pe hb
    have hne : b ≠ rb := by
      rintro rfl
      rw [hb] at r0
      cases r0
    exact (World.cell?_of_block (hg.block b (World.block_lt_of_cell? w _ hb) (fun e => hne (by injection e)))).trans hb
  refine ⟨⟨hcell 0 _ _ hG.glob.err⟩, ?_⟩
  obtain ⟨te, pe, he⟩ := hG.rng
  exact ⟨te, pe, hcell 2 te pe he⟩
theorem below_grown {w0 w w1 : World} {rb : Nat} (hb : Below w0.heap.size w0 w) (hg : w.grownBy w1 (some rb)) (hr : w0.heap.size ≤ rb) : Below w0.heap.size w0 w1 :=
  hb.grown hg hb.size (fun k hk => by injection hk with hk; omega)

theorem skip_no {r : Value} {t : Tok} {w : World} (x : ByteArray) (hp : Peeks r t w) (hi : isB t x.data.toList = false) : Calls Tryd.prog 18 #[r, .string x] w fun e w' => e = .returned (.bool false) ∧ Below w.heap.size w w' := by
  have h := is_any x hp
  rw [hi] at h
  have H := Lib.hid h
  clear h hi hp
  go_enter Tryd.func18, Tryd.ntmps18
  go_wp2_with fail
  with_reducible refine (H.out).mono ?_
  rintro e w1 ⟨rfl, hb⟩
  go_wp2
  go_ret
  exact ⟨rfl, hb⟩
theorem skip_yes {w : World} {rb : Nat} {ts : List Tok} {k : Nat} {t : Tok} (x : ByteArray) (h : RD w rb ts k) (ht : ts[k]? = some t) (hi : isB t x.data.toList = true) (hk : k + 1 < ts.length) :
    Calls Tryd.prog 18 #[.pointer (some ⟨rb, 0, none⟩), .string x] w fun e w' => e = .returned (.bool true) ∧ RD w' rb ts (k + 1) ∧ w.grownBy w' (some rb) := by
  have h0 : t.kind ≠ 0 := by
    intro h0
    rw [isB, h0] at hi
    cases hi
  have h1 := is_any x (peeks_at h ht)
  rw [hi] at h1
  have H := Lib.hid h1
  have H2 := Lib.hid (fun (W : World) (hb : Below w.heap.size w W) => take_on (h.below hb) ht h0 hk)
  clear h1 hi h ht h0 hk
  go_enter Tryd.func18, Tryd.ntmps18
  go_wp2_with fail
  with_reducible refine (H.out).mono ?_
  rintro e w1 ⟨rfl, hb⟩
  have H3 := Lib.hid (H2.out w1 hb)
  have HB := Lib.hid hb
  clear hb
  go_wp2_with fail
  with_reducible refine (H3.out).mono ?_
  rintro e w2 ⟨rfl, hR, hg⟩
  go_wp2
  go_ret
  exact ⟨rfl, hR, (grown_of_below HB.out (some rb)).trans hg⟩

/-- A refusal: an error at a place. -/
def Bad (p : Int) (mk : Value → Value) (w : World) (e : Ending) (w' : World) : Prop := ∃ b, e = .returned (mk (.iface 60 (.pointer (some ⟨b, 0, none⟩)))) ∧ w.heap.size ≤ b ∧ AtE w' b p 20 ∧ Below w.heap.size w w'
theorem refuse_nil (w : World) : Calls Tryd.prog 31 #[.pointer none] w fun e w' => e = .returned (.iface 55 (.int .i64 3)) ∧ w = w' := by
  have hf0 := field0
  have hf1 := field1
  have hf2 := field2
  go_enter Tryd.func31, Tryd.ntmps31
  go_wp2
  go_ret
  exact ⟨rfl, rfl⟩
theorem refuse_at {a : Addr} {t : Tok} {w : World} (hp : Peeks (.pointer (some a)) t w) : Calls Tryd.prog 31 #[.pointer (some a)] w (Bad t.pos (fun v => v) w) := by
  have hn := hp.now
  unfold PeekIs at hn
  have H := Lib.hid hn
  clear hn hp
  have hf0 := field0
  have hf1 := field1
  have hf2 := field2
  go_enter Tryd.func31, Tryd.ntmps31
  go_wp2_with fail
  with_reducible refine (H.out).mono ?_
  rintro e w1 ⟨rfl, hb⟩
  have e2 : tokV t = .agg #[.int .i64 t.kind, .string ⟨t.text.toArray⟩, .int .i64 t.pos] := rfl
  rw [e2]
  clear e2
  go_wp2
  go_ret
  exact ⟨w1.heap.size, rfl, hb.size, ⟨by simp, by simp⟩, hb.alloc hb.size _⟩

theorem want_nil (x : ByteArray) (w : World) : Calls Tryd.prog 19 #[.pointer none, .string x] w fun e w' => e = .returned (.iface 55 (.int .i64 3)) ∧ Below w.heap.size w w' := by
  have H := Lib.hid (skip_no x (peeks_nil w) rfl)
  have H2 := Lib.hid refuse_nil
  go_enter Tryd.func19, Tryd.ntmps19
  go_wp2_with fail
  with_reducible refine (H.out).mono ?_
  rintro e w1 ⟨rfl, hb⟩
  go_wp2_with fail
  with_reducible refine (H2.out w1).mono ?_
  rintro e w2 ⟨rfl, rfl⟩
  go_wp2
  go_ret
  exact ⟨rfl, hb⟩
theorem want_no {a : Addr} {t : Tok} {w : World} (x : ByteArray) (hp : Peeks (.pointer (some a)) t w) (hi : isB t x.data.toList = false) : Calls Tryd.prog 19 #[.pointer (some a), .string x] w (Bad t.pos (fun v => v) w) := by
  have H := Lib.hid (skip_no x hp hi)
  have H2 := Lib.hid (fun (W : World) (hb : Below w.heap.size w W) => refuse_at (hp.below hb))
  clear hp hi
  go_enter Tryd.func19, Tryd.ntmps19
  go_wp2_with fail
  with_reducible refine (H.out).mono ?_
  rintro e w1 ⟨rfl, hb⟩
  have H3 := Lib.hid (H2.out w1 hb)
  have HB := Lib.hid hb
  clear hb
  go_wp2_with fail
  with_reducible refine (H3.out).mono ?_
  rintro e w2 ⟨b, rfl, hl, hA, hb2⟩
  go_wp2
  go_ret
  exact ⟨b, rfl, Nat.le_trans HB.out.size hl, hA, HB.out.trans (hb2.mono HB.out.size)⟩
theorem want_yes {w : World} {rb : Nat} {ts : List Tok} {k : Nat} {t : Tok} (x : ByteArray) (h : RD w rb ts k) (ht : ts[k]? = some t) (hi : isB t x.data.toList = true) (hk : k + 1 < ts.length) :
    Calls Tryd.prog 19 #[.pointer (some ⟨rb, 0, none⟩), .string x] w fun e w' => e = .returned .nilIface ∧ RD w' rb ts (k + 1) ∧ w.grownBy w' (some rb) := by
  have H := Lib.hid (skip_yes x h ht hi hk)
  clear h ht hi hk
  go_enter Tryd.func19, Tryd.ntmps19
  go_wp2_with fail
  with_reducible refine (H.out).mono ?_
  rintro e w1 ⟨rfl, hR, hg⟩
  go_wp2
  go_ret
  exact ⟨rfl, hR, hg⟩

theorem takek_nil (kd : Int) (hk : (0 != kd) = true) (w : World) : Calls Tryd.prog 32 #[.pointer none, .int .i64 kd] w fun e w' => e = .returned (.tuple #[.string ⟨#[]⟩, .iface 55 (.int .i64 3)]) ∧ Below w.heap.size w w' := by
  have hn := (peeks_nil w).now
  unfold PeekIs at hn
  have e2 : tokV ⟨0, [], 0⟩ = .agg #[.int .i64 0, .string ⟨#[]⟩, .int .i64 0] := rfl
  rw [e2] at hn
  have H := Lib.hid hn
  have H2 := Lib.hid refuse_nil
  clear hn e2
  have hf0 := field0
  have hf1 := field1
  have hf2 := field2
  go_enter Tryd.func32, Tryd.ntmps32
  go_wp2_with fail
  with_reducible refine (H.out).mono ?_
  rintro e w1 ⟨rfl, hb⟩
  go_wp2_with fail
  with_reducible refine (H2.out w1).mono ?_
  rintro e w2 ⟨rfl, rfl⟩
  go_wp2
  go_ret2
  exact ⟨rfl, hb⟩
theorem takek_no {a : Addr} {t : Tok} {w : World} (kd : Int) (hp : Peeks (.pointer (some a)) t w) (hk : (t.kind : Int) ≠ kd) : Calls Tryd.prog 32 #[.pointer (some a), .int .i64 kd] w (Bad t.pos (fun v => .tuple #[.string ⟨#[]⟩, v]) w) := by
  have hn := hp.now
  unfold PeekIs tokV at hn
  have H := Lib.hid hn
  have H2 := Lib.hid (fun (W : World) (hb : Below w.heap.size w W) => refuse_at (hp.below hb))
  have g : ((t.kind : Int) != kd) = true := by rw [bne_iff_ne]; exact hk
  clear hn hp hk
  have hf0 := field0
  have hf1 := field1
  have hf2 := field2
  go_enter Tryd.func32, Tryd.ntmps32
  go_wp2_with fail
  with_reducible refine (H.out).mono ?_
  rintro e w1 ⟨rfl, hb⟩
  have H3 := Lib.hid (H2.out w1 hb)
  have HB := Lib.hid hb
  clear hb
  go_wp2_with fail
  with_reducible refine (H3.out).mono ?_
  rintro e w2 ⟨b, rfl, hl, hA, hb2⟩
  go_wp2
  go_ret2
  exact ⟨b, rfl, Nat.le_trans HB.out.size hl, hA, HB.out.trans (hb2.mono HB.out.size)⟩
theorem takek_yes {w : World} {rb : Nat} {ts : List Tok} {k : Nat} {t : Tok} (kd : Int) (h : RD w rb ts k) (ht : ts[k]? = some t) (hkd : (t.kind : Int) = kd) (h0 : t.kind ≠ 0) (hk : k + 1 < ts.length) :
    Calls Tryd.prog 32 #[.pointer (some ⟨rb, 0, none⟩), .int .i64 kd] w fun e w' => e = .returned (.tuple #[.string ⟨t.text.toArray⟩, .nilIface]) ∧ RD w' rb ts (k + 1) ∧ w.grownBy w' (some rb) := by
  have hn := (peeks_at h ht).now
  unfold PeekIs tokV at hn
  have H := Lib.hid hn
  have H2 := Lib.hid (fun (W : World) (hb : Below w.heap.size w W) => take_on (h.below hb) ht h0 hk)
  subst hkd
  have g : ((t.kind : Int) != (t.kind : Int)) = false := by simp
  clear hn h ht h0 hk
  have hf0 := field0
  have hf1 := field1
  have hf2 := field2
  go_enter Tryd.func32, Tryd.ntmps32
  go_wp2_with fail
  with_reducible refine (H.out).mono ?_
  rintro e w1 ⟨rfl, hb⟩
  have H3 := Lib.hid (H2.out w1 hb)
  have HB := Lib.hid hb
  clear hb
  go_wp2_with fail
  with_reducible refine (H3.out).mono ?_
  rintro e w2 ⟨rfl, hR, hg⟩
  have e2 : tokV t = .agg #[.int .i64 t.kind, .string ⟨t.text.toArray⟩, .int .i64 t.pos] := rfl
  rw [e2]
  clear e2
  go_wp2
  go_ret2
  exact ⟨rfl, hR, (grown_of_below HB.out (some rb)).trans hg⟩

theorem name_nil (w : World) : Calls Tryd.prog 20 #[.pointer none] w fun e w' => e = .returned (.tuple #[.string ⟨#[]⟩, .iface 55 (.int .i64 3)]) ∧ Below w.heap.size w w' := by
  have H := Lib.hid (takek_nil 1 rfl w)
  go_enter Tryd.func20, Tryd.ntmps20
  go_wp2_with fail
  with_reducible refine (H.out).mono ?_
  rintro e w1 ⟨rfl, hb⟩
  go_wp2
  go_ret2
  exact ⟨rfl, hb⟩
theorem name_no {a : Addr} {t : Tok} {w : World} (hp : Peeks (.pointer (some a)) t w) (hk : t.kind ≠ 1) : Calls Tryd.prog 20 #[.pointer (some a)] w (Bad t.pos (fun v => .tuple #[.string ⟨#[]⟩, v]) w) := by
  have H := Lib.hid (takek_no 1 hp (by omega))
  clear hp hk
  go_enter Tryd.func20, Tryd.ntmps20
  go_wp2_with fail
  with_reducible refine (H.out).mono ?_
  rintro e w2 ⟨b, rfl, hl, hA, hb2⟩
  go_wp2
  go_ret2
  exact ⟨b, rfl, hl, hA, hb2⟩
theorem name_yes {w : World} {rb : Nat} {ts : List Tok} {k : Nat} {t : Tok} (h : RD w rb ts k) (ht : ts[k]? = some t) (hkd : t.kind = 1) (hk : k + 1 < ts.length) :
    Calls Tryd.prog 20 #[.pointer (some ⟨rb, 0, none⟩)] w fun e w' => e = .returned (.tuple #[.string ⟨t.text.toArray⟩, .nilIface]) ∧ RD w' rb ts (k + 1) ∧ w.grownBy w' (some rb) := by
  have H := Lib.hid (takek_yes 1 h ht (by omega) (by omega) hk)
  clear h ht hkd hk
  go_enter Tryd.func20, Tryd.ntmps20
  go_wp2_with fail
  with_reducible refine (H.out).mono ?_
  rintro e w2 ⟨rfl, hR, hg⟩
  go_wp2
  go_ret2
  exact ⟨rfl, hR, hg⟩
theorem number_nil (w : World) : Calls Tryd.prog 21 #[.pointer none] w fun e w' => e = .returned (.tuple #[.int .i64 0, .iface 55 (.int .i64 3)]) ∧ Below w.heap.size w w' := by
  have H := Lib.hid (takek_nil 2 rfl w)
  go_enter Tryd.func21, Tryd.ntmps21
  go_wp2_with fail
  with_reducible refine (H.out).mono ?_
  rintro e w1 ⟨rfl, hb⟩
  go_wp2
  go_ret2
  exact ⟨rfl, hb⟩
theorem number_no {a : Addr} {t : Tok} {w : World} (hp : Peeks (.pointer (some a)) t w) (hk : t.kind ≠ 2) : Calls Tryd.prog 21 #[.pointer (some a)] w (Bad t.pos (fun v => .tuple #[.int .i64 0, v]) w) := by
  have H := Lib.hid (takek_no 2 hp (by omega))
  clear hp hk
  go_enter Tryd.func21, Tryd.ntmps21
  go_wp2_with fail
  with_reducible refine (H.out).mono ?_
  rintro e w2 ⟨b, rfl, hl, hA, hb2⟩
  go_wp2
  go_ret2
  exact ⟨b, rfl, hl, hA, hb2⟩
theorem number_yes {w : World} {rb : Nat} {ts : List Tok} {k : Nat} {t : Tok} (hG : GlobS w) (h : RD w rb ts k) (ht : ts[k]? = some t) (hkd : t.kind = 2) (hk : k + 1 < ts.length)
    (hs : t.text.length ≤ 65536) (h0 : t.text ≠ []) (hd : ∀ c ∈ t.text, digitB c = true) (hv : valOf t.text < 9223372036854775808) :
    Calls Tryd.prog 21 #[.pointer (some ⟨rb, 0, none⟩)] w fun e w' => e = .returned (.tuple #[.int .i64 (valOf t.text), .nilIface]) ∧ RD w' rb ts (k + 1) ∧ w.grownBy w' (some rb) := by
  have H := Lib.hid (takek_yes 2 h ht (by omega) (by omega) hk)
  have H2 := Lib.hid (fun (W : World) (hW : GlobS W) => number_any ⟨t.text.toArray⟩ W hW (by simpa [ByteArray.size] using hs) (by simpa using h0) (by simpa using hd))
  have HT := Lib.hid (show numT (⟨t.text.toArray⟩ : ByteArray).data.toList = .tuple #[.int .i64 (valOf t.text), .nilIface] by show numT t.text = _; unfold numT; rw [if_pos hv])
  have HR := Lib.hid h
  have HG := Lib.hid hG
  clear h ht hkd hk h0 hd hv hG hs
  go_enter Tryd.func21, Tryd.ntmps21
  go_wp2_with fail
  with_reducible refine (H.out).mono ?_
  rintro e w2 ⟨rfl, hR, hg⟩
  have H3 := Lib.hid (H2.out w2 (glob_grown HG.out HR.out hg))
  have HR2 := Lib.hid hR
  have Hg := Lib.hid hg
  clear hR hg
  go_wp2_with fail
  with_reducible refine (H3.out).mono ?_
  rintro e w3 ⟨rfl, hb3⟩
  rw [HT.out]
  have HB3 := Lib.hid hb3
  clear hb3
  go_wp2
  go_ret2
  exact ⟨rfl, HR2.out.below HB3.out, Hg.out.trans (grown_of_below HB3.out (some rb))⟩
end Go.Proofs.YtfemddchaihokaaDoor
