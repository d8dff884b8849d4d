/-
  Two tokens compared. ScanTells, walked. The document's value of any text.
-/
import Derived.Test.YtjhicgllofjpoaaGreatDoorLC
import Derived.Laws.StructEq
import Derived.Test.YtjhicgllofjpoaaGreatDoorRB
namespace Go.Proofs.YtjhicgllofjpoaaGreatDoor
section
open Go.RowKit

theorem guardR : Tryz.prog.eqGuardType Tryz.prog.depth 70 = false := by kernel_rfl
theorem guardT : Tryz.prog.eqGuardType Tryz.prog.depth 135 = false := by kernel_rfl
theorem structR : Tryz.prog.underlying 70 = some (.struct (Tryz.prog.fieldsOf 70)) := by kernel_rfl
theorem structT : Tryz.prog.underlying 135 = some (.struct (Tryz.prog.fieldsOf 135)) := by kernel_rfl
theorem heldR : Tryz.prog.stoodInHeld 70 = false := by kernel_rfl
theorem heldT : Tryz.prog.stoodInHeld 135 = false := by kernel_rfl
theorem fieldsR : (Tryz.prog.fieldsOf 70).toList.map (fun f => (f.name, f.type, f.offset)) = [("Kind", 3, 0), ("Text", 9, 1), ("Pos", 3, 2)] := by kernel_rfl
theorem fieldsT : (Tryz.prog.fieldsOf 135).toList.map (fun f => (f.name, f.type, f.offset)) = [("Kind", 3, 0), ("Text", 9, 1), ("Pos", 3, 2)] := by kernel_rfl
theorem three_of {fs : List Field} {a b c : String × TypeId × Nat} (h : fs.map (fun f => (f.name, f.type, f.offset)) = [a, b, c]) : ∃ f g k : Field, fs = [f, g, k] ∧ (f.name, f.type, f.offset) = a ∧ (g.name, g.type, g.offset) = b ∧ (k.name, k.type, k.offset) = c := by
  match fs, h with
  | [f, g, k], h =>
    simp only [List.map_cons, List.map_nil, List.cons.injEq, and_true] at h
    exact ⟨f, g, k, rfl, h.1, h.2.1, h.2.2⟩
theorem partI (a b c : Value) (w : World) : (part 3 #[a, b, c] 0).run Tryz.prog w = .ok a w ∧ (part 3 #[a, b, c] 2).run Tryz.prog w = .ok c w ∧ (part 9 #[a, b, c] 1).run Tryz.prog w = .ok b w := ⟨by kernel_rfl, by kernel_rfl, by kernel_rfl⟩
theorem neq_sameR (a p : Int) (x : ByteArray) (w : World) : (binOp .neq 70 (.agg #[.int .i64 a, .string x, .int .i64 p]) (.agg #[.int .i64 a, .string x, .int .i64 p])).run Tryz.prog w = .ok (.bool false) w := by
  obtain ⟨f, g, k, hfs, hf, hg, hk⟩ := three_of fieldsR
  simp only [Prod.mk.injEq] at hf hg hk
  obtain ⟨p0, p2, p1⟩ := partI (.int .i64 a) (.string x) (.int .i64 p) w
  have e1 := run_equalIn_int (P := Tryz.prog) w 9998 3 .i64 .i64 a a Tryz.underlying3
  have e2 := run_equalIn_string (P := Tryz.prog) w 9998 9 x x Tryz.underlying9
  have e3 := run_equalIn_int (P := Tryz.prog) w 9998 3 .i64 .i64 p p Tryz.underlying3
  simp only [beq_self_eq_true] at e1 e2 e3
  rw [run_neq_struct, show (10000 : Nat) = 9999 + 1 from rfl, run_equalIn_struct w 9999 70 _ _ structR heldR, hfs]
  simp [Op.eqFields, hf.1, hf.2.1, hf.2.2, hg.1, hg.2.1, hg.2.2, hk.1, hk.2.1, hk.2.2, p0, p1, p2, e1, e2, e3]
theorem neq_sameT (a p : Int) (x : ByteArray) (w : World) : (binOp .neq 135 (.agg #[.int .i64 a, .string x, .int .i64 p]) (.agg #[.int .i64 a, .string x, .int .i64 p])).run Tryz.prog w = .ok (.bool false) w := by
  obtain ⟨f, g, k, hfs, hf, hg, hk⟩ := three_of fieldsT
  simp only [Prod.mk.injEq] at hf hg hk
  obtain ⟨p0, p2, p1⟩ := partI (.int .i64 a) (.string x) (.int .i64 p) w
  have e1 := run_equalIn_int (P := Tryz.prog) w 9998 3 .i64 .i64 a a Tryz.underlying3
  have e2 := run_equalIn_string (P := Tryz.prog) w 9998 9 x x Tryz.underlying9
  have e3 := run_equalIn_int (P := Tryz.prog) w 9998 3 .i64 .i64 p p Tryz.underlying3
  simp only [beq_self_eq_true] at e1 e2 e3
  rw [run_neq_struct, show (10000 : Nat) = 9999 + 1 from rfl, run_equalIn_struct w 9999 135 _ _ structT heldT, hfs]
  simp [Op.eqFields, hf.1, hf.2.1, hf.2.2, hg.1, hg.2.1, hg.2.2, hk.1, hk.2.1, hk.2.2, p0, p1, p2, e1, e2, e3]
end
section
open Go.RowKit

theorem num_nil2 (w : World) : Calls Tryz.prog 9 #[.nilIface] w fun e w' => e = .returned (.int .i64 0) ∧ w = w' := (num_nil w).mono fun _ _ h => ⟨h.1, h.2.symm⟩
theorem tokens_long (s : ByteArray) (w : World) (hs : 65536 < s.size) : Calls Tryz.prog 65 #[.string s] w fun e w' => e = .returned (.tuple #[.slice none 0 0, .iface 76 (.int .i64 2)]) ∧ w = w' := by
  have g65 : decide (65536 < (s.size : Int)) = true := by simp; omega
  go_enter Tryz.func65, Tryz.ntmps65
  go_wp2
  go_ret2
  exact ⟨rfl, rfl⟩
set_option maxRecDepth 100000 in
theorem rtokens_long (s : ByteArray) (w : World) (hs : 65536 < s.size) : Calls Tryz.prog 48 #[.string s] w fun e w' => e = .returned (.tuple #[.slice none 0 0, .int .i64 2, .int .i64 (-1)]) ∧ w = w' := by
  have g65 : decide (65536 < (s.size : Int)) = true := by simp; omega
  go_enter Tryz.func48, Tryz.ntmps48
  go_wp2
  go_ret3
  exact ⟨rfl, rfl⟩
theorem rtokens_ok {s : ByteArray} {ts : List Tok} (w : World) (hs : s.size ≤ 65536) (h : toks s.data.toList = .ok ts) :
    Calls Tryz.prog 48 #[.string s] w fun e w' => ∃ g cap, e = .returned (.tuple #[.slice (some ⟨g, 0, none⟩) ts.length cap, .int .i64 0, .int .i64 (-1)]) ∧ 0 < ts.length ∧ ts.length ≤ 65537 ∧ w'.ownsRow w.heap.size 70 3 (.slice (some ⟨g, 0, none⟩) ts.length cap) ts.length (cellsT ts) ∧ Below w.heap.size w w' := by
  refine (rtokens_any s w hs).mono ?_
  rintro e w' (⟨ts', v, h1, rfl, h2, h3, h4, h5⟩ | ⟨x, p, h1, _⟩)
  · rw [h] at h1
    obtain rfl := Res.ok.inj h1
    obtain ⟨g, cap, rfl⟩ := owns_form h4 h2
    exact ⟨g, cap, rfl, h2, h3, h4, h5⟩
  · rw [h] at h1; cases h1
theorem rtokens_er {s : ByteArray} {x p : Nat} (w : World) (hs : s.size ≤ 65536) (h : toks s.data.toList = .error (x, p)) :
    Calls Tryz.prog 48 #[.string s] w fun e w' => e = .returned (.tuple #[.slice none 0 0, .int .i64 x, .int .i64 p]) ∧ Below w.heap.size w w' := by
  refine (rtokens_any s w hs).mono ?_
  rintro e w' (⟨ts', v, h1, _⟩ | ⟨x', p', h1, rfl, h2, h3⟩)
  · rw [h] at h1; cases h1
  · rw [h] at h1
    injection h1 with h1
    injection h1 with e1 e2
    subst e1 e2
    exact ⟨rfl, h3⟩
end
section
open Go.RowKit

def AnyRel (l : List UInt8) (n i : Value) : Prop := ∃ (a : Int) (k : Nat), n = .int .u64 a ∧ i = .int .i64 (k : Int) ∧ k ≤ l.length ∧ 0 ≤ a ∧ a < 11529215046068470016
def AnyP (w : World) (e : Ending) (w' : World) : Prop := ∃ (v : Int) (b : Bool), e = .returned (.tuple #[.int .i64 v, .bool b]) ∧ w = w'
set_option maxHeartbeats 1000000 in
theorem value_some (s : ByteArray) (w : World) (hs : s.size ≤ 65536) : Calls Tryz.prog 75 #[.string s] w (AnyP w) := by
  have HZ := Lib.hid (size_list s)
  go_enter Tryz.func75, Tryz.ntmps75
  go_wp2
  go_loop [4, 5] (fun n i => AnyRel s.data.toList n i) (fun _ i => s.size - (intOf i).toNat)
  case atStart => exact ⟨0, 0, rfl, rfl, Nat.zero_le _, by omega, by omega⟩
  case round =>
    obtain ⟨a, k, rfl, rfl, hk, ha0, ha1⟩ := hrel
    rw [HZ.out] at hk
    by_cases hlt : k < s.size
    · by_cases hbig : 1152921504606846976 ≤ a
      · go_wp2
        go_ret2
        exact ⟨0, false, rfl, rfl⟩
      · have g : decide (1152921504606846976 ≤ a) = false := by simp; omega
        obtain ⟨d, hd⟩ : ∃ d : Int, d = IntKind.u8.wrap (((s[k]'hlt).toNat : Int) - 48) := ⟨_, rfl⟩
        have hd0 : 0 ≤ d ∧ d ≤ 255 := by rw [hd, IntKind.wrap_u8]; omega
        obtain ⟨d0, d1⟩ := hd0
        have hw := hd.symm
        have hb1 : a * 10 + d < 11529215046068470016 := by omega
        have hb0 : 0 ≤ a * 10 + d := by omega
        have HB1 := Lib.hid hb1
        have HB0 := Lib.hid hb0
        clear hb1 hb0 hd
        go_wp2_with fail
        clear hw
        go_round
        case rel => exact ⟨a * 10 + d, k + 1, rfl, by go_num, by rw [HZ.out]; omega, HB0.out, HB1.out⟩
        case measure => simp [intOf]; omega
    · have g : decide (k < s.size) = false := by simpa using hlt
      by_cases hbig : 9223372036854775808 ≤ a
      · go_wp2
        go_ret2
        exact ⟨0, false, rfl, rfl⟩
      · have g2 : decide (9223372036854775808 ≤ a) = false := by simp; omega
        go_wp2
        go_ret2
        exact ⟨a, true, rfl, rfl⟩
end
end Go.Proofs.YtjhicgllofjpoaaGreatDoor
