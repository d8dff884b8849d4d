/-
  The document's own letters, figures and values. The document's own signs, one behind the other. The document's sign, walked. The document's own Tokens: what its rounds keep.
-/
import Derived.Test.YtjhicgllofjpoaaGreatDoorLC
import Derived.Test.YtjhicgllofjpoaaGreatDoorLB
namespace Go.Proofs.YtjhicgllofjpoaaGreatDoor
section
open Go.RowKit

def letP (c : UInt8) (w : World) (e : Ending) (w' : World) : Prop := e = .returned (.bool (letterB c)) ∧ w = w'
theorem letter_any (c : UInt8) (w : World) : Calls Tryz.prog 73 #[.int .u8 c.toNat] w (letP c w) := by
  obtain ⟨n, hn⟩ : ∃ n : Int, n = c.toNat := ⟨_, rfl⟩
  have hT : (n = 95 ∨ 65 ≤ n ∧ n ≤ 90 ∨ 97 ≤ n ∧ n ≤ 122) → letterB c = true := fun h => by
    simp only [letterB, Bool.or_eq_true, Bool.and_eq_true, decide_eq_true_eq, beq_iff_eq]; omega
  have hF : ¬ (n = 95 ∨ 65 ≤ n ∧ n ≤ 90 ∨ 97 ≤ n ∧ n ≤ 122) → letterB c = false := fun h => by
    simp only [letterB, Bool.or_eq_false_iff, Bool.and_eq_false_iff, decide_eq_false_iff_not, beq_eq_false_iff_ne]; omega
  rw [← hn]
  clear hn
  by_cases h1 : n = 95
  · have HN := Lib.hid (hT (.inl h1))
    subst h1
    clear hT hF
    go_enter Tryz.func73, Tryz.ntmps73
    go_wp2
    go_ret
    exact ⟨by rw [HN.out]; rfl, rfl⟩
  have g1 : (n == 95) = false := by rw [beq_eq_false_iff_ne]; exact h1
  by_cases h2 : 65 ≤ n
  · by_cases h3 : n ≤ 90
    · have HN := Lib.hid (hT (by omega))
      clear hT hF h1
      go_enter Tryz.func73, Tryz.ntmps73
      go_wp2
      go_ret
      exact ⟨by rw [HN.out]; rfl, rfl⟩
    · have g3 : decide (n ≤ 90) = false := by simp; omega
      by_cases h4 : 97 ≤ n
      · by_cases h5 : n ≤ 122
        · have HN := Lib.hid (hT (by omega))
          clear hT hF h1 h3
          go_enter Tryz.func73, Tryz.ntmps73
          go_wp2
          go_ret
          exact ⟨by rw [HN.out]; rfl, rfl⟩
        · have g5 : decide (n ≤ 122) = false := by simp; omega
          have HN := Lib.hid (hF (by omega))
          clear hT hF h1 h3 h5
          go_enter Tryz.func73, Tryz.ntmps73
          go_wp2
          go_ret
          exact ⟨by rw [HN.out]; rfl, rfl⟩
      · have g4 : decide (97 ≤ n) = false := by simp; omega
        have HN := Lib.hid (hF (by omega))
        clear hT hF h1 h3 h4
        go_enter Tryz.func73, Tryz.ntmps73
        go_wp2
        go_ret
        exact ⟨by rw [HN.out]; rfl, rfl⟩
  · have g2 : decide (65 ≤ n) = false := by simp; omega
    have g4 : decide (97 ≤ n) = false := by simp; omega
    have HN := Lib.hid (hF (by omega))
    clear hT hF h1 h2
    go_enter Tryz.func73, Tryz.ntmps73
    go_wp2
    go_ret
    exact ⟨by rw [HN.out]; rfl, rfl⟩

def figP (c : UInt8) (w : World) (e : Ending) (w' : World) : Prop := e = .returned (.bool (digitB c)) ∧ w = w'
theorem figure_any (c : UInt8) (w : World) : Calls Tryz.prog 74 #[.int .u8 c.toNat] w (figP c w) := by
  obtain ⟨n, hn⟩ : ∃ n : Int, n = c.toNat := ⟨_, rfl⟩
  have hT : (48 ≤ n ∧ n ≤ 57) → digitB c = true := fun h => by
    simp only [digitB, Bool.and_eq_true, decide_eq_true_eq]; omega
  have hF : ¬ (48 ≤ n ∧ n ≤ 57) → digitB c = false := fun h => by
    simp only [digitB, Bool.and_eq_false_iff, decide_eq_false_iff_not]; omega
  rw [← hn]
  clear hn
  by_cases h2 : 48 ≤ n
  · by_cases h3 : n ≤ 57
    · have HN := Lib.hid (hT (by omega))
      clear hT hF
      go_enter Tryz.func74, Tryz.ntmps74
      go_wp2
      go_ret
      exact ⟨by rw [HN.out]; rfl, rfl⟩
    · have g3 : decide (n ≤ 57) = false := by simp; omega
      have HN := Lib.hid (hF (by omega))
      clear hT hF h3
      go_enter Tryz.func74, Tryz.ntmps74
      go_wp2
      go_ret
      exact ⟨by rw [HN.out]; rfl, rfl⟩
  · have g2 : decide (48 ≤ n) = false := by simp; omega
    have HN := Lib.hid (hF (by omega))
    clear hT hF h2
    go_enter Tryz.func74, Tryz.ntmps74
    go_wp2
    go_ret
    exact ⟨by rw [HN.out]; rfl, rfl⟩

def valT (l : List UInt8) : Value := if valOf l < 9223372036854775808 then .tuple #[.int .i64 (valOf l), .bool true] else .tuple #[.int .i64 0, .bool false]
def valP (l : List UInt8) (w : World) (e : Ending) (w' : World) : Prop := e = .returned (valT l) ∧ w = w'
def ValRel (l : List UInt8) (n i : Value) : Prop := ∃ (a : Int) (k : Nat), n = .int .u64 a ∧ i = .int .i64 (k : Int) ∧ k ≤ l.length ∧ 0 ≤ a ∧ a < 11529215046068469770 ∧ a = foldV 0 (l.take k)
theorem take_more (l : List UInt8) (k : Nat) (h : k < l.length) : l.take (k + 1) = l.take k ++ [l[k]] := by
  rw [List.take_succ_eq_append_getElem h]
theorem fold_split (l : List UInt8) (k : Nat) : foldV 0 l = foldV (foldV 0 (l.take k)) (l.drop k) := by
  conv => lhs; rw [← List.take_append_drop k l]
  unfold foldV
  rw [List.foldl_append]
set_option maxHeartbeats 1000000 in
theorem value_any (s : ByteArray) (w : World) (hs : s.size ≤ 65536) (hd : ∀ c ∈ s.data.toList, digitB c = true) : Calls Tryz.prog 75 #[.string s] w (valP s.data.toList w) := by
  have HZ := Lib.hid (size_list s)
  have HD := Lib.hid hd
  clear hd
  go_enter Tryz.func75, Tryz.ntmps75
  go_wp2
  go_loop [4, 5] (fun n i => ValRel s.data.toList n i) (fun _ i => s.size - (intOf i).toNat)
  case atStart => exact ⟨0, 0, rfl, rfl, Nat.zero_le _, by omega, by omega, rfl⟩
  case round =>
    obtain ⟨a, k, rfl, rfl, hk, ha0, ha1, hav⟩ := hrel
    rw [HZ.out] at hk
    by_cases hlt : k < s.size
    · have hl : k < s.data.toList.length := by rw [HZ.out]; exact hlt
      have hdg := HD.out _ (List.getElem_mem hl)
      have hb : s[k]'hlt = s.data.toList[k] := rfl
      have hsp := fold_split s.data.toList k
      rw [drop_cons _ k hl, foldV_cons] at hsp
      have hge := foldV_le (s.data.toList.drop (k + 1)) (foldV 0 (s.data.toList.take k) * 10 + (s.data.toList[k].toNat - 48))
      have hnx : foldV 0 (s.data.toList.take (k + 1)) = foldV 0 (s.data.toList.take k) * 10 + (s.data.toList[k].toNat - 48) := by rw [take_more _ k hl, foldV_snoc]
      rw [← hsp] at hge
      simp only [digitB, Bool.and_eq_true, decide_eq_true_eq] at hdg
      rw [← hb] at hdg hge hnx
      by_cases hbig : 1152921504606846976 ≤ a
      · have HT := Lib.hid (show valT s.data.toList = .tuple #[.int .i64 0, .bool false] by
          unfold valT; rw [if_neg]; rw [valOf_fold]; omega)
        clear hav hsp hge hnx hdg hl hb
        go_wp2
        go_ret2
        exact ⟨by rw [HT.out]; rfl, rfl⟩
      · have HNX := Lib.hid (show a * 10 + ((s[k]'hlt).toNat - 48 : Int) = foldV 0 (s.data.toList.take (k + 1)) by rw [hnx, hav]; omega)
        have hd1 := hdg.1
        have hd2 := hdg.2
        have g : decide (1152921504606846976 ≤ a) = false := by simp; omega
        clear hav hsp hge hnx hdg hl hb
        have hd3 : (48 : Int) ≤ (s[k]'hlt).toNat := by omega
        have hd4 : ((s[k]'hlt).toNat : Int) ≤ 57 := by omega
        have hb1 : a * 10 + ((s[k]'hlt).toNat - 48 : Int) < 11529215046068469770 := by omega
        have hb0 : 0 ≤ a * 10 + ((s[k]'hlt).toNat - 48 : Int) := by omega
        have HB1 := Lib.hid hb1
        have HB0 := Lib.hid hb0
        clear hb1 hb0 hd1 hd2
        go_wp2
        go_round
        case rel => exact ⟨_, k + 1, rfl, by go_num, by rw [HZ.out]; omega, HB0.out, HB1.out, HNX.out⟩
        case measure => simp [intOf]; omega
    · have hke : s.data.toList.take k = s.data.toList := List.take_of_length_le (by rw [HZ.out]; omega)
      rw [hke, ← valOf_fold] at hav
      have g : decide (k < s.size) = false := by simpa using hlt
      by_cases hbig : 9223372036854775808 ≤ a
      · have HT := Lib.hid (show valT s.data.toList = .tuple #[.int .i64 0, .bool false] by
          unfold valT; rw [if_neg (by omega)])
        clear hav hke
        go_wp2
        go_ret2
        exact ⟨by rw [HT.out]; rfl, rfl⟩
      · have HT := Lib.hid (show valT s.data.toList = .tuple #[.int .i64 a, .bool true] by
          unfold valT; rw [if_pos (by omega), hav])
        have g2 : decide (9223372036854775808 ≤ a) = false := by simp; omega
        clear hav hke
        go_wp2
        go_ret2
        exact ⟨by rw [HT.out]; rfl, rfl⟩
end
section
open Go.RowKit

def SG : List (List UInt8) := [[45, 62], [60, 61], [62, 61], [33, 61], [61, 62], [46, 46], [91], [93], [40], [41], [58], [59], [44], [43], [45], [42], [38], [124], [33], [61], [60], [62], [63], [39]]
def SGV : Array Value := #[.string ⟨#[45, 62]⟩, .string ⟨#[60, 61]⟩, .string ⟨#[62, 61]⟩, .string ⟨#[33, 61]⟩, .string ⟨#[61, 62]⟩, .string ⟨#[46, 46]⟩, .string ⟨#[91]⟩, .string ⟨#[93]⟩, .string ⟨#[40]⟩, .string ⟨#[41]⟩, .string ⟨#[58]⟩, .string ⟨#[59]⟩, .string ⟨#[44]⟩, .string ⟨#[43]⟩, .string ⟨#[45]⟩, .string ⟨#[42]⟩, .string ⟨#[38]⟩, .string ⟨#[124]⟩, .string ⟨#[33]⟩, .string ⟨#[61]⟩, .string ⟨#[60]⟩, .string ⟨#[62]⟩, .string ⟨#[63]⟩, .string ⟨#[39]⟩]
theorem sg_cell (k : Nat) (hk : k < 24) : SGV[k]? = some (.string ⟨(SG.getD k []).toArray⟩) := by
  match k, hk with
  | 0, _ => rfl
  | 1, _ => rfl
  | 2, _ => rfl
  | 3, _ => rfl
  | 4, _ => rfl
  | 5, _ => rfl
  | 6, _ => rfl
  | 7, _ => rfl
  | 8, _ => rfl
  | 9, _ => rfl
  | 10, _ => rfl
  | 11, _ => rfl
  | 12, _ => rfl
  | 13, _ => rfl
  | 14, _ => rfl
  | 15, _ => rfl
  | 16, _ => rfl
  | 17, _ => rfl
  | 18, _ => rfl
  | 19, _ => rfl
  | 20, _ => rfl
  | 21, _ => rfl
  | 22, _ => rfl
  | 23, _ => rfl
  | n + 24, h => exact absurd h (by omega)
theorem sg_lenR (k : Nat) (hk : k < 24) : 1 ≤ (SG.getD k []).length ∧ (SG.getD k []).length ≤ 2 := by
  match k, hk with
  | 0, _ => exact ⟨by decide, by decide⟩
  | 1, _ => exact ⟨by decide, by decide⟩
  | 2, _ => exact ⟨by decide, by decide⟩
  | 3, _ => exact ⟨by decide, by decide⟩
  | 4, _ => exact ⟨by decide, by decide⟩
  | 5, _ => exact ⟨by decide, by decide⟩
  | 6, _ => exact ⟨by decide, by decide⟩
  | 7, _ => exact ⟨by decide, by decide⟩
  | 8, _ => exact ⟨by decide, by decide⟩
  | 9, _ => exact ⟨by decide, by decide⟩
  | 10, _ => exact ⟨by decide, by decide⟩
  | 11, _ => exact ⟨by decide, by decide⟩
  | 12, _ => exact ⟨by decide, by decide⟩
  | 13, _ => exact ⟨by decide, by decide⟩
  | 14, _ => exact ⟨by decide, by decide⟩
  | 15, _ => exact ⟨by decide, by decide⟩
  | 16, _ => exact ⟨by decide, by decide⟩
  | 17, _ => exact ⟨by decide, by decide⟩
  | 18, _ => exact ⟨by decide, by decide⟩
  | 19, _ => exact ⟨by decide, by decide⟩
  | 20, _ => exact ⟨by decide, by decide⟩
  | 21, _ => exact ⟨by decide, by decide⟩
  | 22, _ => exact ⟨by decide, by decide⟩
  | 23, _ => exact ⟨by decide, by decide⟩
  | n + 24, h => exact absurd h (by omega)

def hitB (r : List UInt8) (k : Nat) : Bool := r.take (SG.getD k []).length == SG.getD k []
theorem hit_two {r : List UInt8} {k : Nat} (hk : k < 6) (h : hitB r k = true) : twoB r = true := by
  rw [twoB_take]
  unfold hitB at h
  match k, hk with
  | 0, _ => simp only [SG, List.getD_cons_zero, List.length_cons, List.length_nil, Nat.zero_add, Nat.reduceAdd] at h; simp [h]
  | 1, _ => simp only [SG, List.getD_cons_zero, List.getD_cons_succ, List.length_cons, List.length_nil, Nat.zero_add, Nat.reduceAdd] at h; simp [h]
  | 2, _ => simp only [SG, List.getD_cons_zero, List.getD_cons_succ, List.length_cons, List.length_nil, Nat.zero_add, Nat.reduceAdd] at h; simp [h]
  | 3, _ => simp only [SG, List.getD_cons_zero, List.getD_cons_succ, List.length_cons, List.length_nil, Nat.zero_add, Nat.reduceAdd] at h; simp [h]
  | 4, _ => simp only [SG, List.getD_cons_zero, List.getD_cons_succ, List.length_cons, List.length_nil, Nat.zero_add, Nat.reduceAdd] at h; simp [h]
  | 5, _ => simp only [SG, List.getD_cons_zero, List.getD_cons_succ, List.length_cons, List.length_nil, Nat.zero_add, Nat.reduceAdd] at h; simp [h]
theorem no_two {r : List UInt8} (h : ∀ j, j < 6 → hitB r j = false) : twoB r = false := by
  rw [twoB_take]
  have h0 := h 0 (by omega)
  have h1 := h 1 (by omega)
  have h2 := h 2 (by omega)
  have h3 := h 3 (by omega)
  have h4 := h 4 (by omega)
  have h5 := h 5 (by omega)
  simp only [hitB, SG, List.getD_cons_zero, List.getD_cons_succ, List.length_cons, List.length_nil, Nat.zero_add, Nat.reduceAdd] at h0 h1 h2 h3 h4 h5
  rw [h0, h1, h2, h3, h4, h5]
  rfl
theorem hit_one {r : List UInt8} {k : Nat} (h6 : 6 ≤ k) (hk : k < 24) (h : hitB r k = true) : ∃ c r', r = c :: r' ∧ oneB c = true ∧ SG.getD k [] = [c] := by
  cases r with
  | nil =>
    unfold hitB at h
    have := sg_lenR k hk
    cases hs : SG.getD k [] with
    | nil => rw [hs] at this; simp at this
    | cons a b => rw [hs] at h; simp at h
  | cons c r' =>
    refine ⟨c, r', rfl, ?_⟩
    unfold hitB at h
    match k, h6, hk with
    | 6, _, _ => simp [SG] at h; subst h; exact ⟨by decide, rfl⟩
    | 7, _, _ => simp [SG] at h; subst h; exact ⟨by decide, rfl⟩
    | 8, _, _ => simp [SG] at h; subst h; exact ⟨by decide, rfl⟩
    | 9, _, _ => simp [SG] at h; subst h; exact ⟨by decide, rfl⟩
    | 10, _, _ => simp [SG] at h; subst h; exact ⟨by decide, rfl⟩
    | 11, _, _ => simp [SG] at h; subst h; exact ⟨by decide, rfl⟩
    | 12, _, _ => simp [SG] at h; subst h; exact ⟨by decide, rfl⟩
    | 13, _, _ => simp [SG] at h; subst h; exact ⟨by decide, rfl⟩
    | 14, _, _ => simp [SG] at h; subst h; exact ⟨by decide, rfl⟩
    | 15, _, _ => simp [SG] at h; subst h; exact ⟨by decide, rfl⟩
    | 16, _, _ => simp [SG] at h; subst h; exact ⟨by decide, rfl⟩
    | 17, _, _ => simp [SG] at h; subst h; exact ⟨by decide, rfl⟩
    | 18, _, _ => simp [SG] at h; subst h; exact ⟨by decide, rfl⟩
    | 19, _, _ => simp [SG] at h; subst h; exact ⟨by decide, rfl⟩
    | 20, _, _ => simp [SG] at h; subst h; exact ⟨by decide, rfl⟩
    | 21, _, _ => simp [SG] at h; subst h; exact ⟨by decide, rfl⟩
    | 22, _, _ => simp [SG] at h; subst h; exact ⟨by decide, rfl⟩
    | 23, _, _ => simp [SG] at h; subst h; exact ⟨by decide, rfl⟩
    | n + 24, _, h => exact absurd h (by omega)
theorem no_one {r : List UInt8} {c : UInt8} (h : ∀ j, 6 ≤ j → j < 24 → hitB (c :: r) j = false) : oneB c = false := by
  cases ho : oneB c with
  | false => rfl
  | true =>
    simp only [oneB, List.contains_iff_mem, List.mem_cons, List.not_mem_nil, or_false] at ho
    rcases ho with h0 | h0 | h0 | h0 | h0 | h0 | h0 | h0 | h0 | h0 | h0 | h0 | h0 | h0 | h0 | h0 | h0 | h0
    · have e : c = 91 := UInt8.toNat_inj.1 h0
      subst e
      have := h 6 (by omega) (by omega)
      simp [hitB, SG] at this
    · have e : c = 93 := UInt8.toNat_inj.1 h0
      subst e
      have := h 7 (by omega) (by omega)
      simp [hitB, SG] at this
    · have e : c = 40 := UInt8.toNat_inj.1 h0
      subst e
      have := h 8 (by omega) (by omega)
      simp [hitB, SG] at this
    · have e : c = 41 := UInt8.toNat_inj.1 h0
      subst e
      have := h 9 (by omega) (by omega)
      simp [hitB, SG] at this
    · have e : c = 58 := UInt8.toNat_inj.1 h0
      subst e
      have := h 10 (by omega) (by omega)
      simp [hitB, SG] at this
    · have e : c = 59 := UInt8.toNat_inj.1 h0
      subst e
      have := h 11 (by omega) (by omega)
      simp [hitB, SG] at this
    · have e : c = 44 := UInt8.toNat_inj.1 h0
      subst e
      have := h 12 (by omega) (by omega)
      simp [hitB, SG] at this
    · have e : c = 43 := UInt8.toNat_inj.1 h0
      subst e
      have := h 13 (by omega) (by omega)
      simp [hitB, SG] at this
    · have e : c = 45 := UInt8.toNat_inj.1 h0
      subst e
      have := h 14 (by omega) (by omega)
      simp [hitB, SG] at this
    · have e : c = 42 := UInt8.toNat_inj.1 h0
      subst e
      have := h 15 (by omega) (by omega)
      simp [hitB, SG] at this
    · have e : c = 38 := UInt8.toNat_inj.1 h0
      subst e
      have := h 16 (by omega) (by omega)
      simp [hitB, SG] at this
    · have e : c = 124 := UInt8.toNat_inj.1 h0
      subst e
      have := h 17 (by omega) (by omega)
      simp [hitB, SG] at this
    · have e : c = 33 := UInt8.toNat_inj.1 h0
      subst e
      have := h 18 (by omega) (by omega)
      simp [hitB, SG] at this
    · have e : c = 61 := UInt8.toNat_inj.1 h0
      subst e
      have := h 19 (by omega) (by omega)
      simp [hitB, SG] at this
    · have e : c = 60 := UInt8.toNat_inj.1 h0
      subst e
      have := h 20 (by omega) (by omega)
      simp [hitB, SG] at this
    · have e : c = 62 := UInt8.toNat_inj.1 h0
      subst e
      have := h 21 (by omega) (by omega)
      simp [hitB, SG] at this
    · have e : c = 63 := UInt8.toNat_inj.1 h0
      subst e
      have := h 22 (by omega) (by omega)
      simp [hitB, SG] at this
    · have e : c = 39 := UInt8.toNat_inj.1 h0
      subst e
      have := h 23 (by omega) (by omega)
      simp [hitB, SG] at this
theorem sg_hit {r : List UInt8} {k : Nat} (hk : k < 24) (h : hitB r k = true) (hno : ∀ j, j < k → hitB r j = false) : signN r = (SG.getD k []).length ∧ r.take (signN r) = SG.getD k [] := by
  have ht : r.take (SG.getD k []).length = SG.getD k [] := by unfold hitB at h; simpa using h
  by_cases h6 : k < 6
  · have h2 := hit_two h6 h
    have hl : (SG.getD k []).length = 2 := by
      match k, h6 with
      | 0, _ => rfl
      | 1, _ => rfl
      | 2, _ => rfl
      | 3, _ => rfl
      | 4, _ => rfl
      | 5, _ => rfl
    have e : signN r = 2 := by
      cases r with
      | nil => cases h2
      | cons c r' => simp [signN, h2]
    rw [e]
    rw [hl] at ht
    exact ⟨hl.symm, ht⟩
  · obtain ⟨c, r', rfl, ho, hs⟩ := hit_one (by omega) hk h
    have h2 := no_two (r := c :: r') (fun j hj => hno j (by omega))
    have e : signN (c :: r') = 1 := by simp [signN, h2, ho]
    rw [e, hs]
    exact ⟨rfl, rfl⟩
theorem sg_miss {r : List UInt8} (hno : ∀ j, j < 24 → hitB r j = false) : signN r = 0 := by
  cases r with
  | nil => rfl
  | cons c r' =>
    have h2 := no_two (r := c :: r') (fun j hj => hno j (by omega))
    have h1 := no_one (r := r') (c := c) (fun j _ hj => hno j hj)
    simp [signN, h2, h1]
end
section
open Go.RowKit

def SignRel (s : ByteArray) (at0 : Nat) (w : World) (i : Value) (wr : World) : Prop := ∃ (k n : Nat), i = .int .i64 (k : Int) ∧ k ≤ 24 ∧ (∀ j, j < k → hitB (s.data.toList.drop at0) j = false) ∧ wr = (w.alloc (.cells SGV 9)).drewN n
def SignP (s : ByteArray) (at0 : Nat) (w : World) (e : Ending) (w' : World) : Prop := e = .returned (.string ⟨((s.data.toList.drop at0).take (signN (s.data.toList.drop at0))).toArray⟩) ∧ Below w.heap.size w w'
theorem sgv_cell (w : World) (k : Nat) (hk : k < 24) : (w.alloc (.cells SGV 9)).cell? ⟨w.heap.size, k, none⟩ = some (.string ⟨(SG.getD k []).toArray⟩) := by
  rw [World.cell?_alloc_at _ _ _ _ rfl]; exact sg_cell k hk
set_option maxHeartbeats 1000000 in
theorem rsign_any (s : ByteArray) (at0 : Nat) (w : World) (hs : s.size ≤ 65536) (hat : at0 < s.size) : Calls Tryz.prog 76 #[.string s, .int .i64 at0] w (SignP s at0 w) := by
  have HZ := Lib.hid (size_list s)
  go_enter Tryz.func76, Tryz.ntmps76
  go_wp2
  go_loopw [6] (fun i wr => SignRel s at0 w i wr) (fun i _ => 24 - (intOf i).toNat)
  case atStart => exact ⟨0, 0, rfl, by omega, fun j hj => by omega, rfl⟩
  case round =>
    obtain ⟨k, n, rfl, hk, hno, rfl⟩ := hrel
    have HNO := Lib.hid hno
    clear hno
    by_cases hlt : k < 24
    · have hc := sgv_cell w k hlt
      obtain ⟨x, hx⟩ : ∃ x : ByteArray, x = ⟨(SG.getD k []).toArray⟩ := ⟨_, rfl⟩
      rw [← hx] at hc
      have hxs : x.size = (SG.getD k []).length := by rw [hx]; simp [ByteArray.size]
      have hxl : x.toList = SG.getD k [] := by rw [hx, ByteArray.toList_eq]
      have hl := sg_lenR k hlt
      rw [← hxs] at hl
      have hfit : ¬ at0 + x.size ≤ s.size → hitB (s.data.toList.drop at0) k = false := by
        intro hf
        unfold hitB
        rw [beq_eq_false_iff_ne]
        intro he
        have := congrArg List.length he
        rw [List.length_take, List.length_drop, HZ.out, ← hxs] at this
        omega
      have hex : hitB (s.data.toList.drop at0) k = ((s.extract at0 (at0 + x.size)).toList == x.toList) := by
        unfold hitB
        rw [ByteArray.toList_eq, ext_list, Nat.add_sub_cancel_left, hxl, hxs]
      have HSH := Lib.hid (show hitB (s.data.toList.drop at0) k = true → Value.string x = .string ⟨((s.data.toList.drop at0).take (signN (s.data.toList.drop at0))).toArray⟩ from fun h => by
        rw [(sg_hit hlt h HNO.out).2, hx])
      clear hx hxs hxl
      have w5 : (k : Int) < 24 := by omega
      have w6 : (0 : Int) ≤ k := by omega
      have w7 : decide ((k : Int) < 24) = true := by simp; omega
      have w1 : IntKind.i64.wrap ((at0 : Int) + (x.size : Int)) = (at0 : Int) + x.size := IntWalk.i64_in _ (by omega)
      have w2 : 0 ≤ (at0 : Int) + x.size := by omega
      have w3 : ((at0 : Int) + x.size).toNat = at0 + x.size := by omega
      by_cases hf : at0 + x.size ≤ s.size
      · have w4 : decide ((at0 : Int) + x.size ≤ s.size) = true := by simp; omega
        cases hh : hitB (s.data.toList.drop at0) k with
        | true =>
          rw [hh] at hex
          have HV := Lib.hid (HSH.out hh)
          have hex' := hex.symm
          clear hex hfit hh HSH
          go_wp2_with fail
          go_quiet (fail)
          clear w1 w2 w3 w4 hex'
          go_wp2
          go_ret
          exact ⟨by rw [← HV.out]; rfl, below_drewN ((Below.refl _ _).alloc (Nat.le_refl _) _) _⟩
        | false =>
          rw [hh] at hex
          have hex' := hex.symm
          have HH := Lib.hid hh
          clear hex hfit hh HSH
          go_wp2_with fail
          go_quiet (fail)
          clear w1 w2 w3 w4 hex'
          go_wp2
          go_roundw
          case rel =>
            refine ⟨k + 1, n + nq, by go_num, by omega, fun j hj => ?_, rfl⟩
            by_cases hjk : j = k
            · rw [hjk]; exact HH.out
            · exact HNO.out j (by omega)
          case measure => simp [intOf]; omega
      · have w4 : decide ((at0 : Int) + x.size ≤ s.size) = false := by simp; omega
        have HH := Lib.hid (hfit hf)
        clear hex hfit HSH
        go_wp2_with fail
        go_quiet (fail)
        clear w1 w2 w3 w4
        go_wp2
        go_roundw
        case rel =>
          refine ⟨k + 1, n + nq, by go_num, by omega, fun j hj => ?_, rfl⟩
          by_cases hjk : j = k
          · rw [hjk]; exact HH.out
          · exact HNO.out j (by omega)
        case measure => simp [intOf]; omega
    · have hke : k = 24 := by omega
      subst hke
      have HM := Lib.hid (sg_miss HNO.out)
      go_wp2
      go_ret
      exact ⟨by rw [HM.out]; rfl, below_drewN ((Below.refl _ _).alloc (Nat.le_refl _) _) _⟩
end
section
open Go.RowKit

theorem infoRk : (Tryz.prog.info? 70).map (fun i => (i.zero, i.size, i.bytes)) = some (some (.agg #[.int .i64 0, .string ⟨#[]⟩, .int .i64 0]), 3, 32) := by kernel_rfl

def RefRel (l : List UInt8) (w0 : World) (v i : Value) (wr : World) : Prop :=
  ∃ (acc : List Tok) (k : Nat), i = .int .i64 (k : Int) ∧ k ≤ l.length ∧ toks l = onto acc (scanG l k) ∧ acc.length ≤ k ∧ wr.ownsRow w0.heap.size 70 3 v acc.length (cellsT acc) ∧ Below w0.heap.size w0 wr
/-- What the document tells of a text. -/
def RefP (r : Res) (w : World) (e : Ending) (w' : World) : Prop :=
  (∃ ts v, r = .ok ts ∧ e = .returned (.tuple #[v, .int .i64 0, .int .i64 (-1)]) ∧ 0 < ts.length ∧ ts.length ≤ 65537 ∧ w'.ownsRow w.heap.size 70 3 v ts.length (cellsT ts) ∧ Below w.heap.size w w') ∨
  (∃ x p : Nat, r = .error (x, p) ∧ e = .returned (.tuple #[.slice none 0 0, .int .i64 x, .int .i64 p]) ∧ x ≠ 0 ∧ Below w.heap.size w w')

theorem ref_blank {l : List UInt8} {acc : List Tok} {k : Nat} (hk : k < l.length) (hb : blankB l[k] = true) (ht : toks l = onto acc (scanG l k)) : toks l = onto acc (scanG l (k + 1)) := by
  rw [ht, scanG_skip (b := 1) (by omega) (blanks_one hk hb)]
theorem ref_line {l : List UInt8} {acc : List Tok} {k : Nat} (hk : k + 1 < l.length) (h1 : l[k].toNat = 47) (h2 : l[k + 1].toNat = 47) (ht : toks l = onto acc (scanG l k)) : toks l = onto acc (scanG l (k + cnt commB (l.drop k))) := by
  have := cnt_le commB (l.drop k)
  rw [List.length_drop] at this
  rw [ht, scanG_skip (by omega) (blanks_line hk h1 h2)]
theorem ref_er {l : List UInt8} {acc : List Tok} {k : Nat} (hk : k < l.length) (hb : blanks false (l.drop k) = 0) (ht : toks l = onto acc (scanG l k)) {kd n x : Nat} (hm : meas (l.drop k) = (kd, n, x)) (hx : x ≠ 0) : toks l = .error (x, k) := by
  have h := tok_er hk hb ht (by rw [hm]; exact hx)
  rw [hm] at h
  exact h
theorem ref_on {l : List UInt8} {acc : List Tok} {k : Nat} (hk : k < l.length) (hb : blanks false (l.drop k) = 0) (ht : toks l = onto acc (scanG l k)) {kd n : Nat} (hm : meas (l.drop k) = (kd, n, 0)) :
    toks l = onto (acc ++ [⟨kd, bareL kd ((l.drop k).take n), k⟩]) (scanG l (k + n)) := by
  rw [ht, scanG_at (by omega) hb, tokG, if_neg (drop_ne hk), hm, if_pos rfl, onto_onto]
theorem meas_digit {l : List UInt8} {k : Nat} (hk : k < l.length) (h : digitB l[k] = true) : meas (l.drop k) = (2, cnt digitB (l.drop k), if valOf ((l.drop k).takeWhile digitB) < 9223372036854775808 then 0 else 10) := by
  rw [drop_cons l k hk]; simp only [meas]; rw [if_pos h]
theorem meas_letter {l : List UInt8} {k : Nat} (hk : k < l.length) (hd : digitB l[k] = false) (h : letterB l[k] = true) : meas (l.drop k) = (1, cnt nameB (l.drop k), 0) := by
  rw [drop_cons l k hk]; simp only [meas]; rw [if_neg (by simp [hd]), if_pos h]
theorem meas_quote {l : List UInt8} {k : Nat} (hk : k < l.length) (h : quoteB l[k] = true) : meas (l.drop k) = (3, labN (l.drop (k + 1)), if labN (l.drop (k + 1)) = 0 then 20 else 0) := by
  obtain ⟨hd, hl⟩ := quote_digit h
  rw [drop_cons l k hk]; simp only [meas]; rw [if_neg (by simp [hd]), if_neg (by simp [hl]), if_pos h]
theorem meas_sign {l : List UInt8} {k : Nat} (hk : k < l.length) (hd : digitB l[k] = false) (hl : letterB l[k] = false) (h : quoteB l[k] = false) : meas (l.drop k) = (4, signN (l.drop k), if signN (l.drop k) = 0 then 20 else 0) := by
  rw [drop_cons l k hk]; simp only [meas]; rw [if_neg (by simp [hd]), if_neg (by simp [hl]), if_neg (by simp [h])]
theorem letter_digit {c : UInt8} (h : letterB c = true) : digitB c = false := by
  simp only [letterB, Bool.or_eq_true, Bool.and_eq_true, decide_eq_true_eq, beq_iff_eq] at h
  simp only [digitB, Bool.and_eq_false_iff, decide_eq_false_iff_not]
  omega
theorem cntd_at {p : UInt8 → Bool} {l : List UInt8} {k m : Nat} (hk : m < l.length) (hkm : k ≤ m) (hb : m - k ≤ cnt p (l.drop k)) (h : p l[m] = true) : m + 1 - k ≤ cnt p (l.drop k) := by
  have := cnt_at (p := p) (l := l.drop k) (k := m - k) (by rw [List.length_drop]; omega) hb (by rw [List.getElem_drop]; simpa [Nat.add_sub_cancel' hkm] using h)
  omega
theorem cntd_stop {p : UInt8 → Bool} {l : List UInt8} {k m : Nat} (hk : m < l.length) (hkm : k ≤ m) (hb : m - k ≤ cnt p (l.drop k)) (h : p l[m] = false) : m = k + cnt p (l.drop k) := by
  have := cnt_stop (p := p) (l := l.drop k) (k := m - k) (by rw [List.length_drop]; omega) hb (by rw [List.getElem_drop]; simpa [Nat.add_sub_cancel' hkm] using h)
  omega
theorem cntd_end {p : UInt8 → Bool} {l : List UInt8} {k m : Nat} (hk : l.length ≤ m) (hkm : k ≤ m) (hml : m ≤ l.length) (hb : m - k ≤ cnt p (l.drop k)) : m = k + cnt p (l.drop k) := by
  have := cnt_le p (l.drop k)
  rw [List.length_drop] at this
  omega
theorem piece {s : ByteArray} {a b : Nat} : Value.string (s.extract a b) = .string ⟨((s.data.toList.drop a).take (b - a)).toArray⟩ := by
  rw [← ext_list]
end
end Go.Proofs.YtjhicgllofjpoaaGreatDoor
