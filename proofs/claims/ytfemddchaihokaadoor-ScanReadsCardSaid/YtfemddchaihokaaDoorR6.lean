/-
  What the law of the reader keeps in its rounds; the document's value of any text.
-/
import Derived.Test.YtfemddchaihokaaDoorN2
import Derived.Test.YtfemddchaihokaaDoorN5
import Derived.Test.YtfemddchaihokaaDoorM5
namespace Go.Proofs.YtfemddchaihokaaDoor
open Go.RowKit

def AnyRel (l : List UInt8) (n i : Value) : Prop := ∃ (a : Int) (k : Nat), n = .int .u64 a ∧ i = .int .i64 (k : Int) ∧ k ≤ l.length ∧ 0 ≤ a ∧ a < 11529215046068470016
def AnyP (w : World) (e : Ending) (w' : World) : Prop := ∃ (v : Int) (b : Bool), e = .returned (.tuple #[.int .i64 v, .bool b]) ∧ w = w'
set_option maxHeartbeats 1000000 in
theorem value_some (s : ByteArray) (w : World) (hs : s.size ≤ 65536) : Calls Tryd.prog 22 #[.string s] w (AnyP w) := by
  have HZ := Lib.hid (size_list s)
  go_enter Tryd.func22, Tryd.ntmps22
  go_wp2
  go_loop [4, 5] (fun n i => AnyRel s.data.toList n i) (fun _ i => s.size - (intOf i).toNat)
  case atStart => exact ⟨0, 0, rfl, rfl, Nat.zero_le _, by omega, by omega⟩
  case round =>
    obtain ⟨a, k, rfl, rfl, hk, ha0, ha1⟩ := hrel
    rw [HZ.out] at hk
    by_cases hlt : k < s.size
    · by_cases hbig : 1152921504606846976 ≤ a
      · go_wp2
        go_ret2
        exact ⟨0, false, rfl, rfl⟩
      · have g : decide (1152921504606846976 ≤ a) = false := by simp; omega
        obtain ⟨d, hd⟩ : ∃ d : Int, d = IntKind.u8.wrap (((s[k]'hlt).toNat : Int) - 48) := ⟨_, rfl⟩
        have hd0 : 0 ≤ d ∧ d ≤ 255 := by rw [hd, IntKind.wrap_u8]; omega
        obtain ⟨d0, d1⟩ := hd0
        have hw := hd.symm
        have hb1 : a * 10 + d < 11529215046068470016 := by omega
        have hb0 : 0 ≤ a * 10 + d := by omega
        have HB1 := Lib.hid hb1
        have HB0 := Lib.hid hb0
        clear hb1 hb0 hd
        go_wp2_with fail
        clear hw
        go_round
        case rel => exact ⟨a * 10 + d, k + 1, rfl, by go_num, by rw [HZ.out]; omega, HB0.out, HB1.out⟩
        case measure => simp [intOf]; omega
    · have g : decide (k < s.size) = false := by simpa using hlt
      by_cases hbig : 9223372036854775808 ≤ a
      · go_wp2
        go_ret2
        exact ⟨0, false, rfl, rfl⟩
      · have g2 : decide (9223372036854775808 ≤ a) = false := by simp; omega
        go_wp2
        go_ret2
        exact ⟨a, true, rfl, rfl⟩

/-- What the rounds keep. -/
structure Lk (w : World) (ts : List Tok) (n rb gm cm tb k : Nat) (t : Tok) (wr : World) : Prop where
  rd : RD wr rb ts k
  own : wr.ownsRow 0 33 3 (.slice (some ⟨gm, 0, none⟩) n cm) n (cellsT ts)
  glob : GlobS wr
  bel : Below w.heap.size w wr
  c0 : wr.cell? ⟨tb, 0, none⟩ = some (.int .i64 t.kind)
  c1 : wr.cell? ⟨tb, 1, none⟩ = some (.string ⟨t.text.toArray⟩)
  c2 : wr.cell? ⟨tb, 2, none⟩ = some (.int .i64 t.pos)
  ne : tb ≠ rb
  hrb : w.heap.size ≤ rb
section
variable {w : World} {ts : List Tok} {n rb gm cm tb k : Nat} {t : Tok} {wr w' : World}
theorem Lk.below (h : Lk w ts n rb gm cm tb k t wr) (hb : Below wr.heap.size wr w') : Lk w ts n rb gm cm tb k t w' :=
  have hl := World.block_lt_of_cell? wr _ h.c0
  ⟨h.rd.below hb, owns_below h.own hb, h.glob.below hb, h.bel.trans (hb.mono h.bel.size), (hb.cell (p := ⟨tb, 0, none⟩) hl).trans h.c0, (hb.cell (p := ⟨tb, 1, none⟩) hl).trans h.c1, (hb.cell (p := ⟨tb, 2, none⟩) hl).trans h.c2, h.ne, h.hrb⟩
theorem Lk.drewN (h : Lk w ts n rb gm cm tb k t wr) (d : Nat) : Lk w ts n rb gm cm tb k t (wr.drewN d) := h.below (below_drewN (Below.refl _ _) d)
theorem Lk.drew (h : Lk w ts n rb gm cm tb k t wr) : Lk w ts n rb gm cm tb k t wr.drew := h.below (Below.refl _ _).drew
theorem row_ne {v : Value} {xs : List Value} (h : wr.ownsRow 0 33 3 (.slice (some ⟨gm, 0, none⟩) n cm) n xs) (hr : wr.heap[rb]? = some (.cells #[v, .int .i64 (k : Int)] 70 (0, 0))) : gm ≠ rb := by
  rintro rfl
  rcases h.2 with ⟨hx, _⟩ | ⟨g', _, cur, hx, _, hh, _⟩
  · cases hx
  · injection hx with hx
    injection hx with hx
    injection hx with hx
    subst hx
    rw [hr] at hh
    injection hh with hh
    injection hh with _ hh
    exact absurd hh (by decide)
theorem Lk.grown {k' : Nat} (h : Lk w ts n rb gm cm tb k t wr) (hR : RD w' rb ts k') (hg : wr.grownBy w' (some rb)) : Lk w ts n rb gm cm tb k' t w' := by
  have hl := World.block_lt_of_cell? wr _ h.c0
  have hc : ∀ o, w'.cell? ⟨tb, o, none⟩ = wr.cell? ⟨tb, o, none⟩ := fun o => World.cell?_of_block (hg.block tb hl (fun e => h.ne (by injection e)))
  have hne : gm ≠ rb := by
    obtain ⟨g, cap, h1, _⟩ := h.rd
    exact row_ne h.own h1
  refine ⟨hR, h.own.kept hg (.inr ?_), glob_grown h.glob h.rd hg, below_grown h.bel hg h.hrb, (hc 0).trans h.c0, (hc 1).trans h.c1, (hc 2).trans h.c2, h.ne, h.hrb⟩
  intro e
  exact hne (by simpa [Value.ownBlock] using e)
end
/-- Where a reader can be: only the last token is the end. -/
theorem more_of {l : List UInt8} {ts : List Tok} (h : toks l = .ok ts) {k : Nat} {t : Tok} (ht : ts[k]? = some t) (h0 : t.kind ≠ 0) : k + 1 < ts.length := by
  have hp := (good_at (good_toks h) k t ht).2.2.2
  have hk := (List.getElem?_eq_some_iff.1 ht).1
  apply Classical.byContradiction
  intro hx
  exact h0 (hp.2 (by omega))
theorem good_num {l : List UInt8} : ∀ {ts : List Tok} {i : Nat}, Good l i ts → ∀ t ∈ ts, t.text.length ≤ l.length ∧ (t.kind = 2 → t.text ≠ [] ∧ (∀ c ∈ t.text, digitB c = true) ∧ valOf t.text < 9223372036854775808)
  | [], _, h, _, _ => by simp [Good] at h
  | [t], _, h, u, hu => by
    obtain ⟨h1, h2, _, _⟩ := h
    obtain rfl := List.mem_singleton.1 hu
    exact ⟨by rw [h2]; exact Nat.zero_le _, fun hk => by omega⟩
  | t :: v :: us, _, h, u, hu => by
    obtain ⟨_, h2, ⟨n, hm, ht, hg⟩, _⟩ := h
    rcases List.mem_cons.1 hu with rfl | hu
    · obtain ⟨hf, hfl⟩ := good_full h2 hm ht
      have hk := meas_kinds (drop_ne h2) hm
      rw [List.length_drop] at hk
      have hle : u.text.length ≤ (full u).length := by
        unfold full
        split
        · simp; omega
        · exact Nat.le_refl _
      refine ⟨by omega, fun h2k => ?_⟩
      rw [h2k] at hm ht
      have ht2 : u.text = (l.drop u.pos).take n := ht
      rw [drop_cons l u.pos h2] at hm ht2
      simp only [meas] at hm
      split at hm
      · rename_i hd
        injection hm with _ hm
        injection hm with hn hv
        rw [← hn, take_cnt] at ht2
        rw [ht2]
        refine ⟨?_, all_while digitB _, ?_⟩
        · rw [List.takeWhile_cons, if_pos hd]; simp
        · apply Classical.byContradiction
          intro hx
          rw [if_neg hx] at hv
          cases hv
      · split at hm
        · injection hm with hm _; cases hm
        · split at hm
          · injection hm with hm _; cases hm
          · injection hm with hm _; cases hm
    · exact good_num hg u hu
end Go.Proofs.YtfemddchaihokaaDoor
