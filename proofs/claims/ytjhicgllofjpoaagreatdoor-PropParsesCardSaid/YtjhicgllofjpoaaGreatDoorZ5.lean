/-
  The document's shape of a formula: walked; how long it is.
-/
import Derived.Test.YtjhicgllofjpoaaGreatDoorZA
import Derived.Test.YtjhicgllofjpoaaGreatDoorDD
import Derived.Test.YtjhicgllofjpoaaGreatDoorJA
import Derived.Deep.LoopGhost
import Derived.Deep.RegionHeld3
namespace Go.Proofs.YtjhicgllofjpoaaGreatDoor
open Go.RowKit Go.Sort

def shHF (x : Fo) : List UInt8 := 40 :: (x.op ++ 32 :: (x.nm ++ 32 :: dgs x.pos))
/-- All of a formula, with places. -/
def shpF : Fo → List UInt8
  | .leaf op nm p => shHF (.leaf op nm p) ++ [41]
  | .un op a p => shHF (.un op a p) ++ (shpF a ++ [41])
  | .bin op a b p => shHF (.bin op a b p) ++ (shpF a ++ (shpF b ++ [41]))
def shKF (ks : List Fo) : List UInt8 := (ks.map shpF).flatten
theorem shpF_eq (x : Fo) : shpF x = shHF x ++ shKF x.kids ++ [41] := by cases x <;> simp [shpF, shKF, Fo.kids]
theorem shkF_take {ks : List Fo} {k : Nat} (h : k < ks.length) : shKF (ks.take (k + 1)) = shKF (ks.take k) ++ shpF ks[k] := by
  unfold shKF
  rw [List.take_succ_eq_append_getElem h, List.map_append, List.flatten_append]
  simp
theorem shkF_le {ks : List Fo} (k : Nat) : (shKF (ks.take k)).length ≤ (shKF ks).length := by
  conv => rhs; rw [← List.take_append_drop k ks]
  unfold shKF
  rw [List.map_append, List.flatten_append, List.length_append]
  omega
theorem size_listR (s : ByteArray) : s.data.toList.length = s.size := by simp
theorem str_ofF (l : List UInt8) (n : Nat) (h : l.length ≤ n) : ∃ t : ByteArray, t.data.toList = l ∧ t.size ≤ n := ⟨⟨l.toArray⟩, rfl, by rw [← size_listR]; exact h⟩
theorem ret_strF {s : ByteArray} {l : List UInt8} (h : s.data.toList = l) : Ending.returned (.string s) = .returned (strV l) := by rw [strV_eq h]
/-- What the shape's first line reads. -/
structure SLF (w W : World) (o nm : ByteArray) (p : Int) (A : Option Addr) (N cap : Nat) (ks : List Fo) (S : Nat → Prop) : Prop where
  bx : Bx W w.heap.size 32 [.string o, .string nm, .slice A N cap, .int .i64 p]
  k : FK W 32 S A ks
  w : Below w.heap.size w W
section
variable {w W W' : World} {o nm : ByteArray} {p : Int} {A : Option Addr} {N cap : Nat} {ks : List Fo} {S : Nat → Prop}
theorem SLF.below (h : SLF w W o nm p A N cap ks S) (hb : Below W.heap.size W W') : SLF w W' o nm p A N cap ks S := ⟨h.bx.below hb, h.k.below hb, h.w.trans (hb.mono h.w.size)⟩
theorem SLF.drew (h : SLF w W o nm p A N cap ks S) : SLF w W.drew o nm p A N cap ks S := h.below (Below.refl _ _).drew
theorem SLF.get (h : SLF w W o nm p A N cap ks S) : (fun w' : World => w'.cell? ⟨w.heap.size, 0, none⟩ = some (.string o) ∧ w'.cell? ⟨w.heap.size, 1, none⟩ = some (.string nm) ∧ w'.cell? ⟨w.heap.size, 3, none⟩ = some (.int .i64 p)) W := ⟨h.bx.cell 0, h.bx.cell 1, h.bx.cell 3⟩
def SLFP (w : World) (o nm : ByteArray) (p : Int) (A : Option Addr) (N cap : Nat) (ks : List Fo) (S : Nat → Prop) (t : ByteArray) (e : Ending) (w' : World) : Prop := e = .returned (.string t) ∧ SLF w w' o nm p A N cap ks S
theorem SLF.dig (h : SLF w W o nm p A N cap ks S) {n : Nat} (hn : n < 9223372036854775808) {z : Int} (hz : z = (n : Int)) {t : ByteArray} (ht : t.data.toList = dgs n) : Calls Tryz.prog 31 #[.int .i64 z] W (SLFP w o nm p A N cap ks S t) :=
  hz ▸ (digits_any n hn W).mono fun _ _ ⟨h1, h2⟩ => ⟨by rw [h1, strV_eq ht], h.below h2⟩
end
def ShCF (x : Fo) : Prop := ∀ (w : World) (S : Nat → Prop) (c : List Value), FS w 32 S x c → (shpF x).length ≤ 1000000 → Calls Tryz.prog 11 #[.agg c.toArray] w (StP (shpF x) w)
def ShRelF (x : Fo) (S : Nat → Prop) (w : World) (A : Option Addr) (N cap : Nat) (o nm : ByteArray) (p : Int) (s i : Value) (wr : World) : Prop :=
  ∃ (k : Nat) (t : ByteArray), i = .int .i64 (k : Int) ∧ k ≤ N ∧ s = .string t ∧ t.data.toList = shHF x ++ shKF (x.kids.take k) ∧ SLF w wr o nm p A N cap x.kids S
theorem fkids3 (x : Fo) : x.kids.length ≤ 3 := by cases x <;> simp [Fo.kids]
set_option maxHeartbeats 4000000 in
set_option maxRecDepth 100000 in
theorem rfshape_of {x : Fo} (hp : x.pos < 9223372036854775808) (ih : ∀ k ∈ x.kids, ShCF k) : ShCF x := by
  intro w S c hH hl
  obtain ⟨A, cap, rfl, hk⟩ := hH.view
  have hN3 := fkids3 x
  have HIH := Lib.hid ih
  have hall := shpF_eq x
  have hlen : (shHF x).length + (shKF x.kids).length + 1 ≤ 1000000 := by rw [hall] at hl; simp only [List.length_append, List.length_cons, List.length_nil] at hl; omega
  have HLEN := Lib.hid hlen
  have HALL := Lib.hid hall
  obtain ⟨tp, htp, htp2⟩ := str_ofF (dgs x.pos) 1000000 (by have := dgs_lenD hp; omega)
  change Calls Tryz.prog 11 #[.agg #[.string ⟨x.op.toArray⟩, .string ⟨x.nm.toArray⟩, .slice A x.kids.length cap, .int .i64 (x.pos : Int)]] w _
  have hos : (⟨x.op.toArray⟩ : ByteArray).size ≤ 1000000 := by rw [← size_listR]; show x.op.length ≤ _; simp only [shHF, List.length_cons, List.length_append] at hlen; omega
  have hns : (⟨x.nm.toArray⟩ : ByteArray).size ≤ 1000000 := by rw [← size_listR]; show x.nm.length ≤ _; simp only [shHF, List.length_cons, List.length_append] at hlen; omega
  obtain ⟨N, hN⟩ : ∃ N, N = x.kids.length := ⟨_, rfl⟩
  have HN := Lib.hid hN
  rw [← hN] at hN3 ⊢
  have hba := (Below.refl w.heap.size w).alloc (Nat.le_refl _) (.cells #[.string ⟨x.op.toArray⟩, .string ⟨x.nm.toArray⟩, .slice A N cap, .int .i64 (x.pos : Int)] 32)
  have HSL := Lib.hid (show SLF w (w.alloc (.cells #[.string ⟨x.op.toArray⟩, .string ⟨x.nm.toArray⟩, .slice A N cap, .int .i64 (x.pos : Int)] 32)) ⟨x.op.toArray⟩ ⟨x.nm.toArray⟩ (x.pos : Int) A N cap x.kids S from ⟨heap_alloc_new w _, hk.below hba, hba⟩)
  have HTP := Lib.hid htp
  have HO := Lib.hid (show (⟨x.op.toArray⟩ : ByteArray).data.toList = x.op from rfl)
  have HNM := Lib.hid (show (⟨x.nm.toArray⟩ : ByteArray).data.toList = x.nm from rfl)
  obtain ⟨p, hpp⟩ : ∃ p : Int, p = (x.pos : Int) := ⟨_, rfl⟩
  rw [← hpp] at HSL ⊢
  have HPP := Lib.hid hpp
  have HPL := Lib.hid hp
  clear ih hH hk hN hl hall hlen hba htp hp hpp
  generalize (⟨x.op.toArray⟩ : ByteArray) = o at *
  generalize (⟨x.nm.toArray⟩ : ByteArray) = nm at *
  go_enter Tryz.func11, Tryz.ntmps11
  go_wp2_with fail
  have k0 : ¬ 9223372036854775807 < 1 + o.size := by omega
  have k1 : ¬ 9223372036854775807 < 1 + o.size + 1 := by omega
  have k2 : ¬ 9223372036854775807 < 1 + o.size + 1 + nm.size := by omega
  have k3 : ¬ 9223372036854775807 < 1 + o.size + 1 + nm.size + 1 := by omega
  have k4 : ¬ 9223372036854775807 < 1 + o.size + 1 + nm.size + 1 + tp.size := by omega
  have lk := HSL.out
  clear HSL
  generalize w.alloc (.cells #[.string o, .string nm, .slice A N cap, .int .i64 p] 32) = W at lk ⊢
  replace lk := lk.drew
  go_region_held3 (fun w' => w'.cell? ⟨w.heap.size, 0, none⟩ = some (.string o) ∧ w'.cell? ⟨w.heap.size, 1, none⟩ = some (.string nm) ∧ w'.cell? ⟨w.heap.size, 3, none⟩ = some (.int .i64 p)) (exact lk.get) (first
    | (go_at_call 31; (with_reducible refine (lk.dig HPL.out HPP.out HTP.out).mono ?_); rintro e wA ⟨rfl, lk⟩))
  all_goals
    have HSL := Lib.hid lk
    have HT0 := Lib.hid (show (⟨#[40]⟩ ++ o ++ ⟨#[32]⟩ ++ nm ++ ⟨#[32]⟩ ++ tp : ByteArray).data.toList = shHF x by
      simp [shHF, HO.out, HNM.out, HTP.out])
    clear lk k0 k1 k2 k3 k4
    go_wp2
    go_loopw [3, 4] (fun s i wr => ShRelF x S w A N cap o nm p s i wr) (fun _ i _ => N - (intOf i).toNat)
    case atStart => exact ⟨0, _, rfl, Nat.zero_le _, rfl, by rw [HT0.out]; simp [shKF], HSL.out⟩
    case round =>
      obtain ⟨k, t, rfl, hk, rfl, ht, hsl⟩ := hrel
      have b2 := hsl.bx.cell 2
      simp only [List.getElem?_cons_zero, List.getElem?_cons_succ] at b2
      have hbl := hsl.bx.lt
      have hts : t.size ≤ 1000000 := by
        rw [← size_listR, ht, List.length_append]
        have := shkF_le (ks := x.kids) k
        have := HLEN.out
        omega
      have HT := Lib.hid ht
      by_cases hlt : k < N
      · have c4 : decide ((k : Int) < (N : Int)) = true := by simp; omega
        have c5 : decide (k < N) = true := by simpa using hlt
        have kk : k < x.kids.length := by rw [← HN.out]; exact hlt
        obtain ⟨g, ⟨o', nm', P', l', cp', p'⟩, rfl, hg', hH', a0, a1, a2, a3⟩ := hsl.k k kk
        have hks : (shpF x.kids[k]).length ≤ 1000000 := by
          have h1 := shkF_le (ks := x.kids) (k + 1)
          rw [shkF_take kk, List.length_append] at h1
          have := HLEN.out
          omega
        have H := Lib.hid (HIH.out _ (List.getElem_mem kk) _ _ _ hH' hks)
        obtain ⟨tk, htk, htk2⟩ := str_ofF (shpF x.kids[k]) 1000000 hks
        have HTK := Lib.hid htk
        have HSL2 := Lib.hid hsl
        have HTT := Lib.hid (shkF_take kk)
        clear hsl hH' ht htk hks
        go_wp2_with fail
        refine (H.out).mono ?_
        rintro e w1 ⟨rfl, hb1⟩
        rw [← strV_eq HTK.out]
        have HR := Lib.hid (show ShRelF x S w (some ⟨g, 0, none⟩) N cap o nm p (.string (t ++ tk)) (.int .i64 ((k : Int) + 1)) w1 from
          ⟨k + 1, _, by go_num, by omega, rfl, by rw [HTT.out]; simp [HT.out, HTK.out], HSL2.out.below hb1⟩)
        clear hb1
        go_wp2
        go_roundw
        case rel => exact HR.out
        case measure => simp [intOf]; omega
      · have c4 : decide ((k : Int) < (N : Int)) = false := by simp; omega
        have c5 : decide (k < N) = false := by simpa using hlt
        have HE := Lib.hid (show t.data.toList = shHF x ++ shKF x.kids by
          rw [ht, List.take_of_length_le (by rw [← HN.out]; omega)])
        have HW := Lib.hid hsl.w
        clear hsl ht
        go_wp2
        go_ret
        exact ⟨ret_strF (by rw [HALL.out]; simp [HE.out]), HW.out⟩
/-- All places are at most B. -/
def PosF (B : Nat) : Fo → Prop
  | .leaf _ _ p => p ≤ B
  | .un _ a p => p ≤ B ∧ PosF B a
  | .bin _ a b p => p ≤ B ∧ PosF B a ∧ PosF B b
theorem posF_pos {B : Nat} : ∀ {e : Fo}, PosF B e → e.pos ≤ B
  | .leaf _ _ _, h => h
  | .un _ _ _, h => h.1
  | .bin _ _ _ _, h => h.1
theorem posF_move {B q : Nat} (hq : q ≤ B) : ∀ {e : Fo}, PosF B e → PosF B (e.move q)
  | .leaf _ _ _, _ => hq
  | .un _ _ _, h => ⟨hq, h.2⟩
  | .bin _ _ _ _, h => ⟨hq, h.2⟩
theorem rfshape_any {B : Nat} (hB : B < 9223372036854775808) : ∀ x : Fo, PosF B x → ShCF x
  | .leaf _ _ _, hp => rfshape_of (Nat.lt_of_le_of_lt (posF_pos hp) hB) (by simp [Fo.kids])
  | .un _ a _, hp => rfshape_of (Nat.lt_of_le_of_lt (posF_pos hp) hB) (by simp only [Fo.kids, List.mem_singleton]; rintro x rfl; exact rfshape_any hB x hp.2)
  | .bin _ a b _, hp => rfshape_of (Nat.lt_of_le_of_lt (posF_pos hp) hB) (by
      have h1 := rfshape_any hB a hp.2.1
      have h2 := rfshape_any hB b hp.2.2
      simp only [Fo.kids, List.mem_cons, List.not_mem_nil, or_false]
      rintro x (rfl | rfl) <;> assumption)
/-- The tokens' places are at most B. -/
def TbS (B : Nat) : St → Prop
  | .good us => ∀ t ∈ us, t.pos ≤ B
  | .bad _ _ => True
structure PbF (B : Nat) (F : St → RF) : Prop where
  tb : ∀ st, TbS B st → TbS B (F st).2
  ok : ∀ st e, TbS B st → (F st).1 = some e → PosF B e
theorem tbs_tl {B : Nat} {st : St} (h : TbS B st) : TbS B st.tl := by
  cases st with
  | bad c p => trivial
  | good us => exact fun t ht => h t (List.mem_of_mem_tail ht)
theorem tbs_fail {B c : Nat} {st : St} (h : TbS B st) : TbS B (st.fail c) := by cases st <;> trivial
theorem tbs_want {B : Nat} {x : List UInt8} {st : St} (h : TbS B st) : TbS B (st.want x) := by
  unfold St.want
  split
  · exact tbs_tl h
  · exact tbs_fail h
theorem tbs_hd {B : Nat} {st : St} (h : TbS B st) : st.hd.pos ≤ B := by
  cases st with
  | bad c p => exact Nat.zero_le _
  | good us =>
    cases us with
    | nil => exact Nat.zero_le _
    | cons t r => exact h t List.mem_cons_self
theorem pbf_atom {B : Nat} {d : Dq} (hf : PbF B d.f) : PbF B (atomS d) := by
  refine ⟨fun st h => ?_, fun st e h he => ?_⟩
  · unfold atomS
    split
    · exact tbs_tl h
    · split
      · exact tbs_tl h
      · split
        · exact tbs_tl h
        · split
          · exact tbs_want (hf.tb _ (tbs_tl h))
          · exact tbs_fail h
  · unfold atomS at he
    split at he
    · injection he with he; subst he; exact tbs_hd h
    · split at he
      · injection he with he; subst he; exact tbs_hd h
      · split at he
        · injection he with he; subst he; exact tbs_hd h
        · split at he
          · unfold enclS at he
            cases ho : (d.f st.tl).1 with
            | none => rw [ho] at he; cases he
            | some a =>
              rw [ho] at he
              injection he with he
              subst he
              exact posF_move (tbs_hd h) (hf.ok _ a (tbs_tl h) ho)
          · cases he
theorem pbf_pref {B : Nat} {d : Dq} (hf : PbF B d.f) (hx : PbF B d.x) : PbF B (prefS d) := by
  have ha := pbf_atom hf
  refine ⟨fun st h => ?_, fun st e h he => ?_⟩
  · unfold prefS
    split
    · exact hx.tb _ (tbs_tl h)
    · exact ha.tb st h
  · unfold prefS at he
    split at he
    · cases ho : (d.x st.tl).1 with
      | none => rw [ho] at he; cases he
      | some a =>
        rw [ho] at he
        injection he with he
        subst he
        exact ⟨tbs_hd h, hx.ok _ a (tbs_tl h) ho⟩
    · exact ha.ok st e h he
theorem pbf_right {B k : Nat} {rd bh : St → RF} (h1 : PbF B rd) (h2 : PbF B bh) : PbF B (rightS k rd bh) := by
  refine ⟨fun st h => ?_, fun st e h he => ?_⟩
  · unfold rightS
    split
    · exact h2.tb _ (tbs_tl (h1.tb st h))
    · exact h1.tb st h
  · unfold rightS at he
    split at he
    · obtain ⟨x, y, hx, hy, rfl⟩ := bin_some he
      have hx' := h1.ok st x h hx
      exact ⟨posF_pos hx', hx', h2.ok _ y (tbs_tl (h1.tb st h)) hy⟩
    · exact h1.ok st e h he
theorem pbf_leftF {B k : Nat} {rd : St → RF} (h1 : PbF B rd) : ∀ (n : Nat) (r : RF), TbS B r.2 → (∀ e, r.1 = some e → PosF B e) → TbS B (leftF k rd n r).2 ∧ ∀ e, (leftF k rd n r).1 = some e → PosF B e
  | 0, r, h, h0 => ⟨h, h0⟩
  | n + 1, r, h, h0 => by
    unfold leftF
    split
    · refine pbf_leftF h1 n (binO r.2.hd.text r.1 (rd r.2.tl).1, (rd r.2.tl).2) (h1.tb _ (tbs_tl h)) (fun e' h' => ?_)
      obtain ⟨x, y, hx, hy, rfl⟩ := bin_some h'
      have hx' := h0 x hx
      exact ⟨posF_pos hx', hx', h1.ok _ y (tbs_tl h) hy⟩
    · exact ⟨h, h0⟩
theorem pbf_left {B k : Nat} {rd : St → RF} (h1 : PbF B rd) : PbF B (leftS k rd) :=
  ⟨fun st h => (pbf_leftF h1 _ _ (h1.tb st h) (fun e he => h1.ok st e h he)).1, fun st e h he => (pbf_leftF h1 _ _ (h1.tb st h) (fun e he => h1.ok st e h he)).2 e he⟩
structure PbF3 (B : Nat) (d : Dq) : Prop where
  f : PbF B d.f
  u : PbF B d.u
  x : PbF B d.x
theorem pbf_dq {B : Nat} : ∀ l, PbF3 B (dq l)
  | 0 => by
    have : PbF B deepS := ⟨fun st h => tbs_fail h, fun st e _ h => by cases h⟩
    exact ⟨this, this, this⟩
  | l + 1 => by
    have ih := pbf_dq (B := B) l
    have x := pbf_pref ih.f ih.x
    have u : PbF B (untlS (dq l)) := pbf_right x ih.u
    have c : PbF B (conjS (dq l)) := pbf_left u
    have o : PbF B (disjS (dq l)) := pbf_left c
    exact ⟨pbf_right o ih.f, u, x⟩
theorem tb_good {l : List UInt8} : ∀ {ts : List Tok} {i : Nat}, Good l i ts → ∀ t ∈ ts, t.pos ≤ l.length
  | [], _, h => h.elim
  | [t], _, h => fun t' ht' => by
    rw [List.mem_singleton] at ht'
    subst ht'
    obtain ⟨_, _, h3, h4⟩ := h
    omega
  | t :: u :: us, i, h => fun t' ht' => by
    obtain ⟨_, h2, ⟨n, hm, ht, hg⟩, _⟩ := h
    rcases List.mem_cons.1 ht' with rfl | hr
    · omega
    · exact tb_good hg t' hr
theorem parse_posF {D : Nat} {l : List UInt8} {f : Fo} (h : parseF D l = .ok f) : PosF l.length f := by
  unfold parseF at h
  cases ht : toks l with
  | error x => rw [ht] at h; cases h
  | ok ts =>
    rw [ht] at h
    simp only at h
    cases hr : (dq D).f (.good ts) with
    | mk o st =>
      rw [hr] at h
      cases st with
      | bad c p => cases h
      | good r =>
        simp only [endF] at h
        split at h
        · cases o with
          | none => cases h
          | some g =>
            injection h with h
            subst h
            exact (pbf_dq D).f.ok (.good ts) g (fun t ht' => tb_good (good_toks ht) t ht') (by rw [hr])
        · cases h
/-- Short labels. -/
def LenF : Fo → Prop
  | .leaf _ nm _ => nm.length ≤ 32
  | .un _ a _ => LenF a
  | .bin _ a b _ => LenF a ∧ LenF b
theorem pk_short {x : List UInt8} (h : pk x < 5) : x.length ≤ 2 := by
  unfold pk at h
  split at h
  · next g => subst g; simp
  · split at h
    · next g => subst g; simp
    · split at h
      · next g => subst g; simp
      · split at h
        · next g => rcases g with rfl | rfl | rfl <;> simp
        · split at h
          · next g => rcases g with rfl | rfl | rfl | rfl <;> simp
          · omega
theorem shpF_len {B : Nat} (hB : B < 9223372036854775808) : ∀ x : Fo, OkF x → LenF x → PosF B x → (shpF x).length ≤ 70 * x.size
  | .leaf op nm p, h, hl, hp => by
    have h1 := dgs_lenD (Nat.lt_of_le_of_lt (show p ≤ B from hp) hB)
    have h2 : op.length ≤ 5 := by rcases h with ⟨rfl, _⟩ | ⟨rfl | rfl, _⟩ <;> decide
    have h3 : nm.length ≤ 32 := hl
    simp only [shpF, shHF, Fo.op, Fo.nm, Fo.pos, Fo.size, List.length_append, List.length_cons, List.length_nil]
    omega
  | .un op a p, h, hl, hp => by
    have h1 := dgs_lenD (Nat.lt_of_le_of_lt (show p ≤ B from hp.1) hB)
    have h2 := pk_short (x := op) (by have := h.1; omega)
    have h3 := shpF_len hB a h.2 hl hp.2
    simp only [shpF, shHF, Fo.op, Fo.nm, Fo.pos, Fo.size, List.length_append, List.length_cons, List.length_nil]
    omega
  | .bin op a b p, h, hl, hp => by
    have h1 := dgs_lenD (Nat.lt_of_le_of_lt (show p ≤ B from hp.1) hB)
    have h2 := pk_short (x := op) (by have := h.1; omega)
    have h3 := shpF_len hB a h.2.1 hl.1 hp.2.1
    have h4 := shpF_len hB b h.2.2 hl.2 hp.2.2
    simp only [shpF, shHF, Fo.op, Fo.nm, Fo.pos, Fo.size, List.length_append, List.length_cons, List.length_nil]
    omega
end Go.Proofs.YtjhicgllofjpoaaGreatDoor
