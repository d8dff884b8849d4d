/-
  makeRoom: there is a chain for one more vector, and the chains hold what they held.
-/
import Derived.Test.YtoppjkdlloddmaaDoorL5
namespace Go.Proofs.YtoppjkdlloddmaaDoor
open Go.RowKit

theorem infoN : (Tryd.prog.info? 3).map (fun i => (i.zero, i.size, i.bytes)) = some (some (.int .i64 0), 1, 8) := by kernel_rfl

set_option maxHeartbeats 400000 in
theorem room_enough {w : World} {b n m : Nat} {ad ad' : Option Addr} {ce ch : Nat} (hc0 : w.cell? ⟨b, 0, none⟩ = some (.slice ad n ce)) (hc1 : w.cell? ⟨b, 1, none⟩ = some (.slice ad' m ch)) (hlt : n < m) :
    Calls Tryd.prog 15 #[.pointer (some ⟨b, 0, none⟩)] w fun e w' => e = .returned (.tuple #[]) ∧ ∃ k, w' = w.drewN k := by
  have hd : decide (n < m) = true := by simp; omega
  go_enter Tryd.func15, Tryd.ntmps15
  go_wp2_with fail
  go_quiet (fail)
  go_wp2_with fail
  exact bodyPost_ret (v := .tuple #[]) (results_none rfl _ _ _) rfl ⟨rfl, _, rfl⟩

section
variable {w : World} {B b n m : Nat} {ev hv : Value} {vl : Nat → Value} {vs : List (List Int)} {nx hs : Nat → Int}
/-- The table with new heads, all 0. -/
theorem Tb.newHeads (h : Tb w B b n m ev hv vl vs nx hs) (hB : B ≤ w.heap.size) (m' : Nat) (hm : m' ≤ 100000) :
    Tb ((w.setCell ⟨b, 1, none⟩ (.slice (some ⟨w.heap.size, 0, none⟩) m' m')).alloc (.cells (madeCells #[.int .i64 0] m') 3)) B b n m' ev (.slice (some ⟨w.heap.size, 0, none⟩) m' m') vl vs nx (fun _ => 0)
      ∧ Keep b B w ((w.setCell ⟨b, 1, none⟩ (.slice (some ⟨w.heap.size, 0, none⟩) m' m')).alloc (.cells (madeCells #[.int .i64 0] m') 3)) := by
  have hset := h.blk.set_ 1 (.slice (some ⟨w.heap.size, 0, none⟩) m' m')
  have hk := (Keep.refl b B w).setCell (i := 1) (u := .slice (some ⟨w.heap.size, 0, none⟩) m' m') (.inl rfl) h.blk (.inl rfl)
  have hne : ∀ {e : TypeId} {size k : Nat} {v : Value} {xs : List Value}, w.ownsRow B e size v k xs → e ≠ 43 → (w.setCell ⟨b, 1, none⟩ (.slice (some ⟨w.heap.size, 0, none⟩) m' m')).ownsRow B e size v k xs := fun ho hne =>
    owns_of ho fun g' hg' => by
      obtain ⟨_, cs', hb'⟩ := owns_blk ho hg'
      exact heap_setCell_other w ⟨b, 1, none⟩ g' _ (fun e => hb'.ne_ h.blk hne e)
  have hsz : (w.setCell ⟨b, 1, none⟩ (.slice (some ⟨w.heap.size, 0, none⟩) m' m')).heap.size = w.heap.size := by simp
  obtain ⟨cs, h2, h3⟩ := h.ent
  have h4 := hne h2 (by decide)
  have h5 := fun j hj => hne (h.vec j hj) (by decide)
  generalize w.setCell ⟨b, 1, none⟩ (.slice (some ⟨w.heap.size, 0, none⟩) m' m') = W at *
  have ho : (W.alloc (.cells (madeCells #[.int .i64 0] m') 3)).ownsRow B 3 1 (.slice (some ⟨w.heap.size, 0, none⟩) m' m') m' (madeCells #[.int .i64 0] m').toList := by
    rw [← hsz]
    exact World.ownsRow_lit W _ m' (by omega) (by unfold maxLen; omega) (by rw [size_madeCells]; omega)
  refine ⟨⟨h.len, (Below.heap_alloc _ _ _ (by rw [hsz]; exact h.blk.lt)).trans hset, ⟨cs, h4.alloc _, h3⟩, ⟨_, ho, fun p hp => ?_⟩, fun j hj => (h5 j hj).alloc _⟩, hk.alloc _⟩
  rw [toList_madeCells_one, List.getElem?_replicate, if_pos hp]

/-- What makeRoom leaves. -/
def RoomF (w : World) (B b n : Nat) (ev : Value) (vl : Nat → Value) (vs : List (List Int)) (e : Ending) (w' : World) : Prop :=
  e = .returned (.tuple #[]) ∧ ∃ m hv nx hs, Tb w' B b n m ev hv vl vs nx hs ∧ Chained vs m nx hs n ∧ n < m ∧ m ≤ 16 + 2 * n ∧ Keep b B w w'
def RoomRel1 (w : World) (B b n m : Nat) (ev hv : Value) (vl : Nat → Value) (vs : List (List Int)) (nx : Nat → Int) (i : Value) (wr : World) : Prop :=
  ∃ (k : Nat) (hs : Nat → Int), k ≤ m ∧ i = .int .i64 (k : Int) ∧ Tb wr B b n m ev hv vl vs nx hs ∧ (∀ p, p < k → hs p = -1) ∧ Keep b B w wr
def RoomRel2 (w : World) (B b n m : Nat) (ev hv : Value) (vl : Nat → Value) (vs : List (List Int)) (i : Value) (wr : World) : Prop :=
  ∃ (k : Nat) (nx hs : Nat → Int), k ≤ n ∧ i = .int .i64 (k : Int) ∧ Tb wr B b n m ev hv vl vs nx hs ∧ Chained vs m nx hs k ∧ Keep b B w wr

set_option maxHeartbeats 1000000 in
theorem room_grow (h : Tb w B b n n ev hv vl vs nx hs) (hB : B ≤ w.heap.size) (hn : n ≤ 1000) (h64 : ∀ j, (vs.getD j []).length ≤ 64) (m' : Nat) (hm' : m' = max 16 (2 * n)) :
    Calls Tryd.prog 15 #[.pointer (some ⟨b, 0, none⟩)] w (RoomF w B b n ev vl vs) := by
  obtain ⟨⟨ad, ce, hev⟩, ad', ch, hhv⟩ := h.slices
  have hc0 := h.c0
  have hc1 := h.c1
  rw [hev] at hc0
  rw [hhv] at hc1
  have HT := Lib.hid h
  have HEV := Lib.hid hev
  have HHV := Lib.hid hhv
  have H64 := Lib.hid h64
  clear h hev hhv h64
  have hd : decide (n < n) = false := by simp
  have hmb : m' ≤ 2016 := by omega
  have hmp : 16 ≤ m' := by omega
  have hml : n < m' := by omega
  have hmu : m' ≤ 16 + 2 * n := by omega
  have hcase : (2 * (n : Int) ≤ 16 ∧ m' = 16) ∨ (¬ 2 * (n : Int) ≤ 16 ∧ m' = 2 * n) := by omega
  clear hm'
  rcases hcase with ⟨hc, hme⟩ | ⟨hc, hme⟩
  case' inl =>
    have HME := Lib.hid hme
    clear hme
    have hmk := run_make_row' (P := Tryd.prog) 41 3 (.int .i64 0) 8 Tryd.underlying41 infoN rfl .i64 .i64 16 (by omega) (by omega)
    simp only [Int.cast_ofNat_Int] at hmk
    go_enter Tryd.func15, Tryd.ntmps15
    go_wp2_with fail
    go_quiet (fail)
    have HT1 := Lib.hid (HT.out.drewN nq)
    have HK1 := Lib.hid ((Keep.refl b B w).drewN nq)
    have hB1 : B ≤ (w.drewN nq).heap.size := hB
    generalize w.drewN nq = w1 at *
    have hc1' := HT1.out.c1
    have hf1' := HT1.out.blk.frozen 1
    have hbl := HT1.out.blk.lt
    rw [HHV.out] at hc1'
    have hc1a : (w1.alloc (.cells (madeCells #[.int .i64 0] 16) 3)).cell? ⟨b, 1, none⟩ = some (.slice ad' n ch) := by rw [World.cell?_alloc_lt _ _ ⟨b, 1, none⟩ hbl]; exact hc1'
    have hf1a : (w1.alloc (.cells (madeCells #[.int .i64 0] 16) 3)).frozen? ⟨b, 1, none⟩ = false := by rw [World.frozen?_alloc_old _ _ ⟨b, 1, none⟩ (Nat.ne_of_lt hbl)]; exact hf1'
    go_wp2_with fail
    clear hmk hc hc1a hf1a
    rw [← HME.out, show (16 : Int) = (m' : Int) by rw [HME.out]; rfl]
  case' inr =>
    have HME := Lib.hid hme
    clear hme
    have hmk := run_make_row' (P := Tryd.prog) 41 3 (.int .i64 0) 8 Tryd.underlying41 infoN rfl .i64 .i64 (2 * n) (by omega) (by omega)
    simp only [Int.natCast_mul, Int.cast_ofNat_Int] at hmk
    go_enter Tryd.func15, Tryd.ntmps15
    go_wp2_with fail
    go_quiet (fail)
    have HT1 := Lib.hid (HT.out.drewN nq)
    have HK1 := Lib.hid ((Keep.refl b B w).drewN nq)
    have hB1 : B ≤ (w.drewN nq).heap.size := hB
    generalize w.drewN nq = w1 at *
    have hc1' := HT1.out.c1
    have hf1' := HT1.out.blk.frozen 1
    have hbl := HT1.out.blk.lt
    rw [HHV.out] at hc1'
    have hc1a : (w1.alloc (.cells (madeCells #[.int .i64 0] (2 * n)) 3)).cell? ⟨b, 1, none⟩ = some (.slice ad' n ch) := by rw [World.cell?_alloc_lt _ _ ⟨b, 1, none⟩ hbl]; exact hc1'
    have hf1a : (w1.alloc (.cells (madeCells #[.int .i64 0] (2 * n)) 3)).frozen? ⟨b, 1, none⟩ = false := by rw [World.frozen?_alloc_old _ _ ⟨b, 1, none⟩ (Nat.ne_of_lt hbl)]; exact hf1'
    go_wp2_with fail
    clear hmk hc hc1a hf1a
    rw [← HME.out, show 2 * (n : Int) = (m' : Int) by rw [HME.out]; omega]
  all_goals
    obtain ⟨hT2, hK2⟩ := HT1.out.newHeads hB1 m' (by omega)
    have HT2 := Lib.hid hT2
    have HK2 := Lib.hid (HK1.out.trans hK2)
    clear hT2 hK2 HT1 HK1 hc1' hf1' hbl hB1 HT HHV hc0 hc1 hd
    generalize (w1.setCell ⟨b, 1, none⟩ (.slice (some ⟨w1.heap.size, 0, none⟩) m' m')).alloc (.cells (madeCells #[.int .i64 0] m') 3) = w2 at *
    generalize w1.heap.size = gh at *
    go_loopw [31] (fun i wr => RoomRel1 w B b n m' ev (.slice (some ⟨gh, 0, none⟩) m' m') vl vs nx i wr) (fun i _ => m' - (intOf i).toNat)
    case atStart => exact ⟨0, fun _ => 0, Nat.zero_le _, rfl, HT2.out, fun p hp => by omega, HK2.out⟩
    case round =>
      obtain ⟨k, hs1, hk, rfl, hT, hneg, hK⟩ := hrel
      have HT := Lib.hid hT
      have HNEG := Lib.hid hneg
      have HK := Lib.hid hK
      clear hT hneg hK
      by_cases hlt : k < m'
      · have hc1 := HT.out.c1
        obtain ⟨g2, ch2, hh2, hBg, _, ⟨cs2, hb2⟩, hcell⟩ := HT.out.heaAt (by omega)
        injection hh2 with e1 _ e1c
        injection e1 with e2
        injection e2 with e3
        subst e3 e1c
        have hck := (hcell k hlt).1
        have hfk := (hcell k hlt).2
        have HB2 := Lib.hid hb2
        clear hcell hb2
        have k0 : (0 : Int) ≤ (k : Int) := by omega
        have k1 : (k : Int) < (m' : Int) := by omega
        have hd : decide (k < m') = true := by simp; omega
        go_wp2_with fail
        go_roundw
        case rel =>
          refine ⟨k + 1, _, by omega, by go_num, HT.out.setHead rfl k hlt (-1), ?_, HK.out.setCell (.inr hBg) HB2.out (.inr (.inr rfl))⟩
          intro p hp
          by_cases he : p = k
          · subst he; rw [upd_same]
          · rw [upd_far _ _ _ _ he]; exact HNEG.out p (by omega)
        case measure => simp [intOf]; omega
      · have hkm : k = m' := by omega
        have hd : decide (k < m') = false := by simp; omega
        have hc0 := HT.out.c0
        rw [HEV.out] at hc0
        have HCH := Lib.hid (Chained.zero vs m' nx (hs := hs1) (fun p hp => HNEG.out p (by omega)))
        clear hkm HNEG
        go_wp2_with fail
        clear hc0 hd
        go_loopw [46] (fun i wr => RoomRel2 w B b n m' ev (.slice (some ⟨gh, 0, none⟩) m' m') vl vs i wr) (fun i _ => n - (intOf i).toNat)
        case atStart => exact ⟨0, nx, hs1, Nat.zero_le _, rfl, HT.out, HCH.out, HK.out⟩
        case round =>
          obtain ⟨q, nx3, hs3, hq, rfl, hT, hch, hK⟩ := hrel
          have HT3 := Lib.hid hT
          have HCH3 := Lib.hid hch
          have HK3 := Lib.hid hK
          clear hT hch hK HT HCH HK
          by_cases hlt2 : q < n
          · have hd : decide (q < n) = true := by simp; omega
            go_wp2_with fail
            refine (chain_tb HT3.out q hlt2 (by omega) (by omega) (H64.out q)).mono ?_
            rintro e w4 ⟨rfl, hT4, hK4⟩
            have HT4 := Lib.hid hT4
            have HK4 := Lib.hid (HK3.out.trans hK4)
            clear hT4 hK4
            go_wp2_with fail
            go_roundw
            case rel => exact ⟨q + 1, _, _, by omega, by go_num, HT4.out, HCH3.out.step (by omega), HK4.out⟩
            case measure => simp [intOf]; omega
          · have hd : decide (q < n) = false := by simp; omega
            have hqn : q = n := by omega
            subst hqn
            go_wp2_with fail
            go_end0
            exact ⟨rfl, m', _, nx3, hs3, HT3.out, HCH3.out, hml, hmu, HK3.out⟩

theorem room_any (h : Tb w B b n m ev hv vl vs nx hs) (hch : Chained vs m nx hs n) (hnm : n ≤ m) (hmu : m ≤ 16 + 2 * n) (hB : B ≤ w.heap.size) (hn : n ≤ 1000) (h64 : ∀ j, (vs.getD j []).length ≤ 64) :
    Calls Tryd.prog 15 #[.pointer (some ⟨b, 0, none⟩)] w (RoomF w B b n ev vl vs) := by
  rcases Nat.lt_or_ge n m with hlt | hge
  · obtain ⟨⟨ad, ce, hev⟩, ad', ch, hhv⟩ := h.slices
    have hc0 := h.c0
    have hc1 := h.c1
    rw [hev] at hc0
    rw [hhv] at hc1
    refine (room_enough hc0 hc1 hlt).mono ?_
    rintro e w' ⟨rfl, k, rfl⟩
    exact ⟨rfl, m, hv, nx, hs, h.drewN k, hch, hlt, hmu, (Keep.refl b B w).drewN k⟩
  · obtain rfl : n = m := by omega
    exact room_grow h hB hn h64 _ rfl
end
end Go.Proofs.YtoppjkdlloddmaaDoor
