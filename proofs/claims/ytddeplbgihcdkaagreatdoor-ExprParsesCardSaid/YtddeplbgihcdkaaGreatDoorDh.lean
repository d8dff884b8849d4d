/-
  The document's shape and size of an expression: walked.
-/
import Derived.Test.YtddeplbgihcdkaaGreatDoorD7
import Derived.Test.YtddeplbgihcdkaaGreatDoorDg
import Derived.Deep.RegionHeld3
namespace Go.Proofs.YtddeplbgihcdkaaGreatDoor
open Go.RowKit Go.Sort

def SzC (x : Ex) : Prop := ∀ (w : World) (S : Nat → Prop) (c : List Value), HS w 70 S x c → Calls Tryz.prog 42 #[.agg c.toArray] w fun e w' => e = .returned (.int .i64 (x.size : Int)) ∧ Below w.heap.size w w'
def szs : List Ex → Nat
  | [] => 0
  | x :: r => x.size + szs r
theorem szs_app : ∀ a b : List Ex, szs (a ++ b) = szs a + szs b
  | [], b => by simp [szs]
  | x :: a, b => by simp [szs, szs_app a b]; omega
theorem size_sum (x : Ex) : x.size = szs x.kids + 1 := by
  cases x <;> simp [Ex.size, szs, Ex.kids] <;> omega
theorem szs_take {ks : List Ex} {k : Nat} (h : k < ks.length) : szs (ks.take (k + 1)) = szs (ks.take k) + ks[k].size := by
  rw [List.take_succ_eq_append_getElem h, szs_app]; simp [szs]
theorem szs_le {ks : List Ex} (k : Nat) : szs (ks.take k) ≤ szs ks := by
  conv => rhs; rw [← List.take_append_drop k ks]
  rw [szs_app]; omega
def SzRel2 (x : Ex) (S : Nat → Prop) (w : World) (A : Option Addr) (N cap : Nat) (o nm : ByteArray) (m p : Int) (s i : Value) (wr : World) : Prop :=
  ∃ k : Nat, i = .int .i64 (k : Int) ∧ k ≤ N ∧ s = .int .i64 ((1 + szs (x.kids.take k) : Nat) : Int) ∧ BoxR wr w.heap.size (.string o) (.string nm) (.int .i64 m) (.slice A N cap) (.int .i64 p) ∧ KR wr 70 S A x.kids ∧ Below w.heap.size w wr
set_option maxHeartbeats 2000000 in
set_option maxRecDepth 100000 in
theorem rsize_of {x : Ex} (hb : x.size ≤ 1000000) (ih : ∀ k ∈ x.kids, SzC k) : SzC x := by
  intro w S c hH
  obtain ⟨A, cap, rfl, hk⟩ := hH.view
  have hN3 := kids_three x
  have HSZ := Lib.hid (size_sum x)
  have HIH := Lib.hid ih
  have HBD := Lib.hid hb
  change Calls Tryz.prog 42 #[.agg #[.string ⟨x.op.toArray⟩, .string ⟨x.nm.toArray⟩, .int .i64 (x.num : Int), .slice A x.kids.length cap, .int .i64 (x.pos : Int)]] w _
  obtain ⟨N, hN⟩ : ∃ N, N = x.kids.length := ⟨_, rfl⟩
  have HN := Lib.hid hN
  rw [← hN] at hN3 ⊢
  have HK := Lib.hid hk
  clear ih hH hk hN hb
  generalize (⟨x.op.toArray⟩ : ByteArray) = o at *
  generalize (⟨x.nm.toArray⟩ : ByteArray) = nm at *
  generalize (x.num : Int) = m at *
  generalize (x.pos : Int) = p at *
  go_enter Tryz.func42, Tryz.ntmps42
  go_wp2
  go_loopw [3, 4] (fun s i wr => SzRel2 x S w A N cap o nm m p s i wr) (fun _ i _ => N - (intOf i).toNat)
  case atStart => exact ⟨0, rfl, Nat.zero_le _, rfl, heap_alloc_new w _, HK.out.below ((Below.refl _ _).alloc (Nat.le_refl _) _), (Below.refl _ _).alloc (Nat.le_refl _) _⟩
  case round =>
    obtain ⟨k, rfl, hk, rfl, hB, hkr, hw⟩ := hrel
    obtain ⟨b0, b1, b2, b3, b4⟩ := hB.cells
    have hbl := hB.lt
    by_cases hlt : k < N
    · have c4 : decide ((k : Int) < (N : Int)) = true := by simp; omega
      have c5 : decide (k < N) = true := by simpa using hlt
      have kk : k < x.kids.length := by rw [← HN.out]; exact hlt
      obtain ⟨g, o', nm', m', P', l', cp', p', rfl, hg', hH', a0, a1, a2, a3, a4⟩ := hkr k kk
      have H := Lib.hid (HIH.out _ (List.getElem_mem kk) wr _ _ hH')
      have HST := Lib.hid (szs_take kk)
      have hsz1 : szs (x.kids.take k) + x.kids[k].size ≤ 1000000 := by
        have h1 := szs_le (ks := x.kids) (k + 1)
        rw [HST.out] at h1
        have := HBD.out; have := HSZ.out; omega
      have HB2 := Lib.hid hB
      have HKR := Lib.hid hkr
      have HW := Lib.hid hw
      clear hB hkr hw hH'
      generalize hq1 : szs (x.kids.take k) = q1 at *
      generalize hq2 : x.kids[k].size = q2 at *
      have HQ1 := Lib.hid hq1
      have HQ2 := Lib.hid hq2
      clear hq1 hq2
      go_wp2_with fail
      refine (H.out).mono ?_
      rintro e w1 ⟨rfl, hb1⟩
      have HR := Lib.hid (show SzRel2 x S w (some ⟨g, 0, none⟩) N cap o nm m p (.int .i64 (((1 + q1 : Nat) : Int) + (q2 : Int))) (.int .i64 ((k : Int) + 1)) w1 from
        ⟨k + 1, by go_num, by omega, by rw [HST.out]; congr 1; omega, HB2.out.below hb1, HKR.out.below hb1, HW.out.trans (hb1.mono HW.out.size)⟩)
      clear hb1
      go_wp2
      go_roundw
      case rel => exact HR.out
      case measure => simp [intOf]; omega
    · have c4 : decide ((k : Int) < (N : Int)) = false := by simp; omega
      have c5 : decide (k < N) = false := by simpa using hlt
      have HW := Lib.hid hw
      have HE := Lib.hid (show 1 + szs (x.kids.take k) = x.size by
        rw [List.take_of_length_le (by rw [← HN.out]; omega), HSZ.out]; omega)
      clear hB hkr hw
      go_wp2
      go_ret
      exact ⟨ret_int (by have := HE.out; omega), HW.out⟩
theorem rsize_any : ∀ x : Ex, x.size ≤ 1000000 → SzC x
  | .leaf _ _ _ _, h => rsize_of h (by simp [Ex.kids])
  | .un _ a _, h => rsize_of h (by simp only [Ex.kids, List.mem_singleton]; rintro x rfl; exact rsize_any x (by simp only [Ex.size] at h; omega))
  | .bin _ a b _, h => rsize_of h (by
      have h1 := rsize_any a (by simp only [Ex.size] at h; omega)
      have h2 := rsize_any b (by simp only [Ex.size] at h; omega)
      simp only [Ex.kids, List.mem_cons, List.not_mem_nil, or_false]
      rintro x (rfl | rfl) <;> assumption)
  | .cond a b c _, h => rsize_of h (by
      have h1 := rsize_any a (by simp only [Ex.size] at h; omega)
      have h2 := rsize_any b (by simp only [Ex.size] at h; omega)
      have h3 := rsize_any c (by simp only [Ex.size] at h; omega)
      simp only [Ex.kids, List.mem_cons, List.not_mem_nil, or_false]
      rintro x (rfl | rfl | rfl) <;> assumption)
/-- What the shape's first line reads. -/
structure SL (w W : World) (o nm : ByteArray) (m p : Int) (A : Option Addr) (N cap : Nat) (ks : List Ex) (S : Nat → Prop) : Prop where
  bx : BoxR W w.heap.size (.string o) (.string nm) (.int .i64 m) (.slice A N cap) (.int .i64 p)
  k : KR W 70 S A ks
  w : Below w.heap.size w W
section
variable {w W W' : World} {o nm : ByteArray} {m p : Int} {A : Option Addr} {N cap : Nat} {ks : List Ex} {S : Nat → Prop}
theorem SL.below (h : SL w W o nm m p A N cap ks S) (hb : Below W.heap.size W W') : SL w W' o nm m p A N cap ks S := ⟨h.bx.below hb, h.k.below hb, h.w.trans (hb.mono h.w.size)⟩
theorem SL.drew (h : SL w W o nm m p A N cap ks S) : SL w W.drew o nm m p A N cap ks S := h.below (Below.refl _ _).drew
theorem SL.get (h : SL w W o nm m p A N cap ks S) : (fun w' : World => w'.cell? ⟨w.heap.size, 0, none⟩ = some (.string o) ∧ w'.cell? ⟨w.heap.size, 1, none⟩ = some (.string nm) ∧ w'.cell? ⟨w.heap.size, 2, none⟩ = some (.int .i64 m) ∧ w'.cell? ⟨w.heap.size, 4, none⟩ = some (.int .i64 p)) W := by
  obtain ⟨b0, b1, b2, _, b4⟩ := h.bx.cells
  exact ⟨b0, b1, b2, b4⟩
def SLP (w : World) (o nm : ByteArray) (m p : Int) (A : Option Addr) (N cap : Nat) (ks : List Ex) (S : Nat → Prop) (t : ByteArray) (e : Ending) (w' : World) : Prop := e = .returned (.string t) ∧ SL w w' o nm m p A N cap ks S
theorem SL.dig (h : SL w W o nm m p A N cap ks S) {n : Nat} (hn : n < 9223372036854775808) {z : Int} (hz : z = (n : Int)) {t : ByteArray} (ht : t.data.toList = dgs n) : Calls Tryz.prog 57 #[.int .i64 z] W (SLP w o nm m p A N cap ks S t) :=
  hz ▸ (digits_any n hn W).mono fun _ _ ⟨h1, h2⟩ => ⟨by rw [h1, strV_eq ht], h.below h2⟩
end
def ShC (x : Ex) : Prop := ∀ (w : World) (S : Nat → Prop) (c : List Value), HS w 70 S x c → (shp x).length ≤ 1000000 → Calls Tryz.prog 39 #[.agg c.toArray] w (StP (shp x) w)
theorem shk_take {ks : List Ex} {k : Nat} (h : k < ks.length) : shK (ks.take (k + 1)) = shK (ks.take k) ++ shp ks[k] := by
  unfold shK
  rw [List.take_succ_eq_append_getElem h, List.map_append, List.flatten_append]
  simp
theorem shk_le {ks : List Ex} (k : Nat) : (shK (ks.take k)).length ≤ (shK ks).length := by
  conv => rhs; rw [← List.take_append_drop k ks]
  unfold shK
  rw [List.map_append, List.flatten_append, List.length_append]
  omega
def ShRel (x : Ex) (S : Nat → Prop) (w : World) (A : Option Addr) (N cap : Nat) (o nm : ByteArray) (m p : Int) (s i : Value) (wr : World) : Prop :=
  ∃ (k : Nat) (t : ByteArray), i = .int .i64 (k : Int) ∧ k ≤ N ∧ s = .string t ∧ t.data.toList = shH x ++ shK (x.kids.take k) ∧ SL w wr o nm m p A N cap x.kids S
set_option maxHeartbeats 4000000 in
set_option maxRecDepth 100000 in
theorem shape_of {x : Ex} (hn : x.num < 9223372036854775808) (hp : x.pos < 9223372036854775808) (ih : ∀ k ∈ x.kids, ShC k) : ShC x := by
  intro w S c hH hl
  obtain ⟨A, cap, rfl, hk⟩ := hH.view
  have hN3 := kids_three x
  have HIH := Lib.hid ih
  have hall := shp_eq x
  have hlen : (shH x).length + (shK x.kids).length + 1 ≤ 1000000 := by rw [hall] at hl; simp only [List.length_append, List.length_cons, List.length_nil] at hl; omega
  have HLEN := Lib.hid hlen
  have HALL := Lib.hid hall
  obtain ⟨ta, hta, hta2⟩ := str_of (dgs x.num) 1000000 (by have := dg20 hn; omega)
  obtain ⟨tp, htp, htp2⟩ := str_of (dgs x.pos) 1000000 (by have := dg20 hp; omega)
  change Calls Tryz.prog 39 #[.agg #[.string ⟨x.op.toArray⟩, .string ⟨x.nm.toArray⟩, .int .i64 (x.num : Int), .slice A x.kids.length cap, .int .i64 (x.pos : Int)]] w _
  have hos : (⟨x.op.toArray⟩ : ByteArray).size ≤ 1000000 := by rw [← size_list]; show x.op.length ≤ _; simp only [shH, List.length_cons, List.length_append] at hlen; omega
  have hns : (⟨x.nm.toArray⟩ : ByteArray).size ≤ 1000000 := by rw [← size_list]; show x.nm.length ≤ _; simp only [shH, List.length_cons, List.length_append] at hlen; omega
  obtain ⟨N, hN⟩ : ∃ N, N = x.kids.length := ⟨_, rfl⟩
  have HN := Lib.hid hN
  rw [← hN] at hN3 ⊢
  have hba := (Below.refl w.heap.size w).alloc (Nat.le_refl _) (.cells #[.string ⟨x.op.toArray⟩, .string ⟨x.nm.toArray⟩, .int .i64 (x.num : Int), .slice A N cap, .int .i64 (x.pos : Int)] 70)
  have HSL := Lib.hid (show SL w (w.alloc (.cells #[.string ⟨x.op.toArray⟩, .string ⟨x.nm.toArray⟩, .int .i64 (x.num : Int), .slice A N cap, .int .i64 (x.pos : Int)] 70)) ⟨x.op.toArray⟩ ⟨x.nm.toArray⟩ (x.num : Int) (x.pos : Int) A N cap x.kids S from ⟨heap_alloc_new w _, hk.below hba, hba⟩)
  have HTA := Lib.hid hta
  have HTP := Lib.hid htp
  have HO := Lib.hid (show (⟨x.op.toArray⟩ : ByteArray).data.toList = x.op from rfl)
  have HNM := Lib.hid (show (⟨x.nm.toArray⟩ : ByteArray).data.toList = x.nm from rfl)
  obtain ⟨m, hm⟩ : ∃ m : Int, m = (x.num : Int) := ⟨_, rfl⟩
  obtain ⟨p, hpp⟩ : ∃ p : Int, p = (x.pos : Int) := ⟨_, rfl⟩
  rw [← hm, ← hpp] at HSL ⊢
  have HM := Lib.hid hm
  have HPP := Lib.hid hpp
  have HNL := Lib.hid hn
  have HPL := Lib.hid hp
  clear ih hH hk hN hl hall hlen hba hta htp hn hp hm hpp
  generalize (⟨x.op.toArray⟩ : ByteArray) = o at *
  generalize (⟨x.nm.toArray⟩ : ByteArray) = nm at *
  go_enter Tryz.func39, Tryz.ntmps39
  go_wp2_with fail
  have k0 : ¬ 9223372036854775807 < 1 + o.size := by omega
  have k1 : ¬ 9223372036854775807 < 1 + o.size + 1 := by omega
  have k2 : ¬ 9223372036854775807 < 1 + o.size + 1 + nm.size := by omega
  have k3 : ¬ 9223372036854775807 < 1 + o.size + 1 + nm.size + 1 := by omega
  have k4 : ¬ 9223372036854775807 < 1 + o.size + 1 + nm.size + 1 + ta.size := by omega
  have k5 : ¬ 9223372036854775807 < 1 + o.size + 1 + nm.size + 1 + ta.size + 1 := by omega
  have k6 : ¬ 9223372036854775807 < 1 + o.size + 1 + nm.size + 1 + ta.size + 1 + tp.size := by omega
  have lk := HSL.out
  clear HSL
  generalize w.alloc (.cells #[.string o, .string nm, .int .i64 m, .slice A N cap, .int .i64 p] 70) = W at lk ⊢
  replace lk := lk.drew
  go_region_held3 (fun w' => w'.cell? ⟨w.heap.size, 0, none⟩ = some (.string o) ∧ w'.cell? ⟨w.heap.size, 1, none⟩ = some (.string nm) ∧ w'.cell? ⟨w.heap.size, 2, none⟩ = some (.int .i64 m) ∧ w'.cell? ⟨w.heap.size, 4, none⟩ = some (.int .i64 p)) (exact lk.get) (first
    | (go_at_call 57; (with_reducible refine (lk.dig HNL.out HM.out HTA.out).mono ?_); rintro e wA ⟨rfl, lk⟩)
    | (go_at_call 57; (with_reducible refine (lk.dig HPL.out HPP.out HTP.out).mono ?_); rintro e wA ⟨rfl, lk⟩))
  all_goals
    have HSL := Lib.hid lk
    have HT0 := Lib.hid (show (⟨#[40]⟩ ++ o ++ ⟨#[32]⟩ ++ nm ++ ⟨#[32]⟩ ++ ta ++ ⟨#[32]⟩ ++ tp : ByteArray).data.toList = shH x by
      simp [shH, HO.out, HNM.out, HTA.out, HTP.out])
    clear lk k0 k1 k2 k3 k4 k5 k6
    go_wp2
    go_loopw [3, 4] (fun s i wr => ShRel x S w A N cap o nm m p s i wr) (fun _ i _ => N - (intOf i).toNat)
    case atStart => exact ⟨0, _, rfl, Nat.zero_le _, rfl, by rw [HT0.out]; simp [shK], HSL.out⟩
    case round =>
      obtain ⟨k, t, rfl, hk, rfl, ht, hsl⟩ := hrel
      obtain ⟨b0, b1, b2, b3, b4⟩ := hsl.bx.cells
      have hbl := hsl.bx.lt
      have hts : t.size ≤ 1000000 := by
        rw [← size_list, ht, List.length_append]
        have := shk_le (ks := x.kids) k
        have := HLEN.out
        omega
      have HT := Lib.hid ht
      by_cases hlt : k < N
      · have c4 : decide ((k : Int) < (N : Int)) = true := by simp; omega
        have c5 : decide (k < N) = true := by simpa using hlt
        have kk : k < x.kids.length := by rw [← HN.out]; exact hlt
        obtain ⟨g, o', nm', m', P', l', cp', p', rfl, hg', hH', a0, a1, a2, a3, a4⟩ := hsl.k k kk
        have hks : (shp x.kids[k]).length ≤ 1000000 := by
          have h1 := shk_le (ks := x.kids) (k + 1)
          rw [shk_take kk, List.length_append] at h1
          have := HLEN.out
          omega
        have H := Lib.hid (HIH.out _ (List.getElem_mem kk) _ _ _ hH' hks)
        obtain ⟨tk, htk, htk2⟩ := str_of (shp x.kids[k]) 1000000 hks
        have HTK := Lib.hid htk
        have HSL2 := Lib.hid hsl
        have HTT := Lib.hid (shk_take kk)
        clear hsl hH' ht htk hks
        go_wp2_with fail
        refine (H.out).mono ?_
        rintro e w1 ⟨rfl, hb1⟩
        rw [← strV_eq HTK.out]
        have HR := Lib.hid (show ShRel x S w (some ⟨g, 0, none⟩) N cap o nm m p (.string (t ++ tk)) (.int .i64 ((k : Int) + 1)) w1 from
          ⟨k + 1, _, by go_num, by omega, rfl, by rw [HTT.out]; simp [HT.out, HTK.out], HSL2.out.below hb1⟩)
        clear hb1
        go_wp2
        go_roundw
        case rel => exact HR.out
        case measure => simp [intOf]; omega
      · have c4 : decide ((k : Int) < (N : Int)) = false := by simp; omega
        have c5 : decide (k < N) = false := by simpa using hlt
        have HE := Lib.hid (show t.data.toList = shH x ++ shK x.kids by
          rw [ht, List.take_of_length_le (by rw [← HN.out]; omega)])
        have HW := Lib.hid hsl.w
        clear hsl ht
        go_wp2
        go_ret
        exact ⟨ret_str (by rw [HALL.out]; simp [HE.out]), HW.out⟩
theorem shape_any {B : Nat} (hB : B < 9223372036854775808) : ∀ x : Ex, Ok x → PosB B x → ShC x
  | .leaf op nm n p, h, hp => shape_of (num_lt h) (Nat.lt_of_le_of_lt (posb_pos hp) hB) (by simp [Ex.kids])
  | .un op a p, h, hp => shape_of (num_lt h) (Nat.lt_of_le_of_lt (posb_pos hp) hB) (by simp only [Ex.kids, List.mem_singleton]; rintro x rfl; exact shape_any hB x h.2 hp.2)
  | .bin op a b p, h, hp => shape_of (num_lt h) (Nat.lt_of_le_of_lt (posb_pos hp) hB) (by
      have h1 := shape_any hB a h.2.1 hp.2.1
      have h2 := shape_any hB b h.2.2 hp.2.2
      simp only [Ex.kids, List.mem_cons, List.not_mem_nil, or_false]
      rintro x (rfl | rfl) <;> assumption)
  | .cond a b c p, h, hp => shape_of (num_lt h) (Nat.lt_of_le_of_lt (posb_pos hp) hB) (by
      have h1 := shape_any hB a h.1 hp.2.1
      have h2 := shape_any hB b h.2.1 hp.2.2.1
      have h3 := shape_any hB c h.2.2 hp.2.2.2
      simp only [Ex.kids, List.mem_cons, List.not_mem_nil, or_false]
      rintro x (rfl | rfl | rfl) <;> assumption)
end Go.Proofs.YtddeplbgihcdkaaGreatDoor
