/-
  The law BitsOf answers true for every size and all numbers: the order of numbers, and that they come twice, plays no part.
-/
import Derived.Test.YtmdmanhjgbpgoaaDoorS4
import Derived.Deep.AppendLies
import Derived.Deep.RegionLaw
namespace Go.Proofs.YtmdmanhjgbpgoaaDoor
open Go.RowKit

/-- append of no source, at a step of a region that draws its order. -/
theorem step_append_none {P : Program} {w : World} {ops : Array Oper} {o : Oper} {a : Act} {K : Act → World → Prop} {Q : Exit → Act → World → Prop} {E : Prop} (hgd : o.guard = none) (s x : Operand) (t : TypeId)
    (ho : o.op = .call { callee := .builtin .append, args := #[s, x], argTypes := #[t, t] }) (base : Nat) (e : TypeId) (i : TypeInfo) (size : Nat) (ht : P.underlying t = some (.slice e)) (hi : P.info? e = some i)
    (v : Value) (n : Nat) (xs : List Value) (hs : a.eval s = v) (hown : w.ownsRow base e size v n xs) (hx : a.eval x = .slice none 0 0) (h : K (a.put o.dst v) w) :
    if Region.wanted o (yielded ops a.tmps) = true then Oper.wp P o a w K Q else E := by
  have hw : Region.wanted o (yielded ops a.tmps) = true := by simp [Region.wanted, hgd]
  rw [if_pos hw]
  have hrun := run_append_owned_none (P := P) (w := w) base t o.type e i size ht hi v n xs hown
  unfold Oper.wp
  simp [execOp, ho, resolve, invoke, builtin, hs, hx, hrun, Result.andThen]
  exact h

theorem owns_two (w : World) (r : Int) (B : Nat) (hB : B ≤ w.heap.size) : (w.alloc (.cells #[.int .i64 r, .int .i64 r] 3)).ownsRow B 3 1 (.slice (some ⟨w.heap.size, 0, none⟩) 2 2) 2 [.int .i64 r, .int .i64 r] :=
  ⟨rfl, .inr ⟨w.heap.size, 2, _, rfl, hB, heap_alloc_new _ _, Nat.le_refl _, by unfold maxLen; omega, rfl, rfl⟩⟩
def V64 (x : Int) : Value := .int .i64 x
theorem Reads.of_ownsI {w : World} {base : Nat} {v : Value} {xs : List Int} (h : w.ownsRow base 3 1 v xs.length (xs.map V64)) : Reads w v xs := by
  obtain ⟨h1, h2⟩ := h
  rcases h2 with ⟨rfl, hn⟩ | ⟨g, cap, cur, rfl, hg, hh, hc, hm, hs, ht⟩
  · refine ⟨none, 0, by simp [hn], ?_⟩
    intro k hk
    omega
  · refine ⟨some ⟨g, 0, none⟩, cap, rfl, ?_⟩
    intro k hk
    refine ⟨_, rfl, rfl, ?_⟩
    have hk' : (cur.toList.take (xs.length * 1))[k]? = (xs.map V64)[k]? := by rw [ht]
    rw [List.getElem?_take, if_pos (by omega)] at hk'
    simp only [World.cell?, hh, Nat.zero_add]
    have : cur[k]? = (xs.map V64)[k]? := by simpa using hk'
    rw [if_neg (by simp), this]
    simp [V64, List.getD_eq_getElem?_getD, List.getElem?_eq_getElem hk]

theorem of_int {w : World} (i : Int) {v : Value} {xs : List Int} (h0 : 0 ≤ i) (h1 : i ≤ 4096) (hv : Reads w v xs) (hx : xs.length ≤ 9223372036854775807) :
    Calls Tryd.prog 10 #[.int .i64 i, v] w (OfF i.toNat xs w) := by
  obtain ⟨n, rfl⟩ := Int.eq_ofNat_of_zero_le h0
  rw [Int.toNat_natCast]
  exact of_set n (by omega) hv hx

/-- The rests of the first numbers; and the same, each twice, the last first. -/
def resL (m : Nat) (xs : List Int) : List Int := xs.map (fun x => x % ((m : Int) + 1))
def dupL : List Int → List Int := fun l => l.foldl (fun acc r => r :: r :: acc) []
theorem dupL_snoc (l : List Int) (r : Int) : dupL (l ++ [r]) = r :: r :: dupL l := by simp [dupL, List.foldl_append]
theorem dupL_mem : ∀ (l acc : List Int) (x : Int), x ∈ l.foldl (fun acc r => r :: r :: acc) acc ↔ x ∈ l ∨ x ∈ acc := by
  intro l
  induction l with
  | nil => intro acc x; simp
  | cons a l ih =>
    intro acc x
    rw [List.foldl_cons, ih]
    simp only [List.mem_cons]
    constructor
    · rintro (h | h | h | h)
      · exact .inl (.inr h)
      · exact .inl (.inl h)
      · exact .inl (.inl h)
      · exact .inr h
    · rintro ((h | h) | h)
      · exact .inr (.inl h)
      · exact .inl h
      · exact .inr (.inr (.inr h))
theorem mem_dupL (l : List Int) (x : Int) : x ∈ dupL l ↔ x ∈ l := by
  unfold dupL; rw [dupL_mem]; simp
theorem hasL_dup (l : List Int) (j : Nat) : hasL (dupL l) j = hasL l j := by
  unfold hasL; rw [decide_eq_decide]; exact mem_dupL l _
theorem resL_within (m : Nat) (xs : List Int) : Within (m + 1) (resL m xs) := by
  intro y hy
  obtain ⟨x, _, rfl⟩ := List.mem_map.1 hy
  refine ⟨Int.emod_nonneg _ (by omega), ?_⟩
  have := Int.emod_lt_of_pos x (show (0 : Int) < (m : Int) + 1 by omega)
  omega
theorem within_dup {n : Nat} {l : List Int} (h : Within n l) : Within n (dupL l) := fun y hy => h y ((mem_dupL l y).1 hy)
theorem count_one (n : Nat) (x : Int) : (List.range n).countP (fun j : Nat => decide ((j : Int) = x)) ≤ 1 := by
  induction n with
  | zero => simp
  | succ n ih =>
    rw [List.range_succ, List.countP_append]
    by_cases h : (n : Int) = x
    · have : (List.range n).countP (fun j : Nat => decide ((j : Int) = x)) = 0 := by
        rw [List.countP_eq_zero]
        intro a ha
        have := List.mem_range.1 ha
        simp; omega
      rw [this]; simp [h]
    · simp [h]; exact ih
theorem count_le (n : Nat) : ∀ xs : List Int, (its n (hasL xs)).length ≤ xs.length := by
  intro xs
  rw [its_length]
  induction xs with
  | nil => simp [hasL]
  | cons x xs ih =>
    have h1 := count_one n x
    have h2 : ∀ l : List Nat, l.countP (hasL (x :: xs)) ≤ l.countP (fun j : Nat => decide ((j : Int) = x)) + l.countP (hasL xs) := by
      intro l
      induction l with
      | nil => simp
      | cons a l ih2 =>
        simp only [List.countP_cons]
        have : hasL (x :: xs) a = (decide ((a : Int) = x) || hasL xs a) := by
          unfold hasL; rw [← Bool.decide_or, decide_eq_decide, List.mem_cons]
        rw [this]
        cases decide ((a : Int) = x) <;> cases hasL xs a <;> simp <;> omega
    have := h2 (List.range n)
    simp only [List.length_cons]; omega

theorem SetF.lt_b' {w : World} {b c size : Nat} {f : Nat → Bool} (h : SetF w b c size f) : b < w.heap.size ∧ c < w.heap.size := by
  obtain ⟨ws, hw, hm⟩ := h
  exact hw.lt_b

def OfLoop (m : Nat) (xs : List Int) (B : Nat) (w : World) (a b i : Value) (wr : World) : Prop :=
  ∃ k : Nat, k ≤ xs.length ∧ i = .int .i64 (k : Int) ∧ wr.ownsRow B 3 1 a k ((resL m (xs.take k)).map V64) ∧ wr.ownsRow B 3 1 b (2 * k) ((dupL (resL m (xs.take k))).map V64) ∧ (a.ownBlock = none ∨ a.ownBlock ≠ b.ownBlock) ∧ Below w.heap.size w wr ∧ B ≤ wr.heap.size ∧ (k = 0 → b = .slice none 0 0)

theorem of_rel {m : Nat} {xs : List Int} {B : Nat} {w W : World} {a b : Value} {k : Nat} {x r : Int} (hlt : k < xs.length) (hsn : xs.take (k + 1) = xs.take k ++ [x]) (hr : x % (1 + (m : Int)) = r)
    (ha : W.ownsRow B 3 1 a (k + 1) ((resL m (xs.take k)).map V64 ++ [.int .i64 r])) (hb : W.ownsRow B 3 1 b (2 * (k + 1)) ([.int .i64 r, .int .i64 r] ++ (dupL (resL m (xs.take k))).map V64))
    (hne : a.ownBlock = none ∨ a.ownBlock ≠ b.ownBlock) (hbel : Below w.heap.size w W) (hB : B ≤ W.heap.size) : OfLoop m xs B w a b (.int .i64 ((k : Int) + 1)) W := by
  have e : resL m (xs.take (k + 1)) = resL m (xs.take k) ++ [r] := by
    rw [hsn]; simp only [resL, List.map_append, List.map_cons, List.map_nil]
    rw [← hr, Int.add_comm 1]
  refine ⟨k + 1, by omega, by simp, ?_, ?_, hne, hbel, hB, fun h => by omega⟩
  · rw [e, List.map_append]; exact ha
  · rw [e, dupL_snoc, List.map_cons, List.map_cons]; exact hb
theorem dup_len (m : Nat) (xs : List Int) (k : Nat) (hk : k ≤ xs.length) : (dupL (resL m (xs.take k))).length = 2 * k := by
  have : ∀ (l acc : List Int), (l.foldl (fun acc r => r :: r :: acc) acc).length = 2 * l.length + acc.length := by
    intro l
    induction l with
    | nil => intro acc; simp
    | cons a l ih => intro acc; rw [List.foldl_cons, ih]; simp; omega
  unfold dupL
  rw [this]
  simp [resL]; omega

set_option maxHeartbeats 400000 in
theorem bitsOf_long {w : World} (s : Int) {ad : Option Addr} {la ca : Nat} (hG : Glob w) (ha : 200 < la) :
    Calls Tryd.prog 7 #[.int .u8 s, .slice ad la ca] w fun e w' => e = .returned (.bool true) ∧ Below w.heap.size w w' := by
  have HG := Lib.hid hG
  clear hG
  go_enter Tryd.func7, Tryd.ntmps7
  go_wp2_with fail
  refine (alive_yes _ HG.out).mono ?_
  rintro e w1 ⟨rfl, hb⟩
  have HB := Lib.hid hb
  clear hb
  go_wp2_with fail
  go_ret
  exact ⟨rfl, HB.out⟩

set_option maxHeartbeats 1600000 in
set_option maxRecDepth 100000 in
theorem bitsOf_yes {w : World} (m : Nat) {va : Value} {xs : List Int} (hm : m ≤ 255) (hG : Glob w) (hva : Reads8 w va xs) :
    Calls Tryd.prog 7 #[.int .u8 (m : Int), va] w fun e w' => e = .returned (.bool true) ∧ Below w.heap.size w w' := by
  obtain ⟨ad, ca, rfl, ha, ha8⟩ := hva
  by_cases hbig : 200 < xs.length
  · exact bitsOf_long _ hG hbig
  obtain ⟨i0, hi0, hz⟩ := Option.map_eq_some_iff.1 info3
  simp only [Prod.mk.injEq] at hz
  obtain ⟨hz0, hz1, hz2⟩ := hz
  have HZ0 := Lib.hid hz0
  have HZ1 := Lib.hid hz1
  have HZ2 := Lib.hid hz2
  have HI := Lib.hid hi0
  have hxl : xs.length ≤ 200 := by omega
  have hd1 : decide ((200 : Int) < (xs.length : Int)) = false := by simp; omega
  have HA := Lib.hid ha
  have HA8 := Lib.hid ha8
  have HG := Lib.hid hG
  clear ha ha8 hbig hG hz0 hz1 hz2 hi0
  go_enter Tryd.func7, Tryd.ntmps7
  go_wp2_with fail
  refine (alive_yes _ HG.out).mono ?_
  rintro e w1 ⟨rfl, hb1⟩
  have HB1 := Lib.hid hb1
  have hz1 := hb1.size
  clear hb1
  go_wp2_with fail
  clear hd1
  generalize hB : w1.heap.size = B at *
  have HBE := Lib.hid hB
  have hB' : B ≤ w1.heap.size := by omega
  clear hB
  go_loopw [6, 7, 8] (fun a b i wr => OfLoop m xs B w a b i wr) (fun _ _ i _ => xs.length - (intOf i).toNat)
  case atStart => exact ⟨0, Nat.zero_le _, rfl, World.ownsRow_nil _ _ _ _, World.ownsRow_nil _ _ _ _, .inl rfl, HB1.out, hB', fun _ => rfl⟩
  case round =>
    obtain ⟨k, hk, rfl, hoa, hob, hne, hbel, hBs, hnil⟩ := hrel
    have HNIL := Lib.hid hnil
    clear hnil
    have HOA := Lib.hid hoa
    have HOB := Lib.hid hob
    have HNE := Lib.hid hne
    have HBR := Lib.hid hbel
    have hbs := hbel.size
    clear hoa hob hne hbel
    by_cases hlt : k < xs.length
    · obtain ⟨⟨pb, po, ps⟩, hp, hps, hc⟩ := HA.out k hlt
      simp only at hps hc
      subst hps
      have hpb := World.block_lt_of_cell? w _ hc
      have hc' := (HBR.out.cell (p := ⟨pb, po + k, none⟩) hpb).trans hc
      have h8 := HA8.out k
      obtain ⟨h80, h81⟩ := h8
      have HSN := Lib.hid (take_snocI xs k hlt)
      clear hc
      generalize xs.getD k 0 = x at *
      have HHA := Lib.hid HA
      clear HA
      subst hp
      have k0 : (0 : Int) ≤ (k : Int) := by omega
      have k1 : (k : Int) < (xs.length : Int) := by omega
      have hpB : pb < B := by have h : pb < w.heap.size := hpb; omega
      go_wp2_with (at_builtin; refine wpList_append_lies _ rfl _ _ 22 rfl B 3 i0 (.int .i64 0) 1 8 Tryd.underlying22 HI.out HZ0.out HZ1.out HZ2.out rfl (by decide) _ _ _ rfl (HOA.out.alloc _) ⟨wr.heap.size, 0, none⟩ 1 1 [.int .i64 (x % (1 + (m : Int)))] rfl rfl ?c1 ?c2 (by omega) ?c3 ?c4 ?c5 (wr.heap.size + 1) (by simp) ?_)
      case c2 => rfl
      case c3 => unfold maxLen; omega
      case c4 => omega
      case c5 => omega
      intro g1 cap1 w2 hown2 hgrow2 hat2 hlt2
      have hob2 : w2.ownsRow B 3 1 u7 (2 * k) ((dupL (resL m (xs.take k))).map V64) := (HOB.out.alloc _).kept hgrow2 (by
        rcases HNE.out with h | h
        · cases hbo : u7.ownBlock with
          | none => left; rfl
          | some q => right; rw [h]; simp
        · right; exact fun e => h e.symm)
      have HOB2 := Lib.hid hob2
      have HOA2 := Lib.hid hown2
      have HB2 := Lib.hid ((HBR.out.alloc hbs (.cells #[.int .i64 (x % (1 + (m : Int)))] 3)).grown hgrow2 (by simp; omega) (fun j hj => by have := (HOA.out.lt j hj).1; omega))
      have hz2 : wr.heap.size + 1 ≤ w2.heap.size := by have := hgrow2.size; simpa using this
      have hc2 : w2.cell? ⟨pb, po + k, none⟩ = some (.int .u8 x) := (HB2.out.cell (p := ⟨pb, po + k, none⟩) hpb).trans ((HBR.out.cell (p := ⟨pb, po + k, none⟩) hpb).symm.trans hc')
      have HAT := Lib.hid hat2
      clear hob2 hown2 hgrow2 hat2 hc'
      have hr0 : (0 : Int) ≤ x % (1 + (m : Int)) := Int.emod_nonneg _ (by omega)
      have hr1 : x % (1 + (m : Int)) ≤ 255 := by have := Int.emod_lt_of_pos x (show (0 : Int) < 1 + (m : Int) by omega); omega
      go_wp2_with fail
      have hmd : x.tmod (1 + (m : Int)) = x % (1 + (m : Int)) := Int.tmod_eq_emod_of_nonneg h80
      have hwx : IntKind.i64.wrap x = x := IntWalk.i64_in _ (by omega)
      have hm0 : ((1 + (m : Int)) == 0) = false := by rw [beq_eq_false_iff_ne]; omega
      have hm1 : ¬ (1 + (m : Int) = 0) := by omega
      generalize hrr : x % (1 + (m : Int)) = r at *
      have HRR := Lib.hid hrr
      clear hrr
      have hOW := owns_two w2 r B (by omega)
      by_cases hk0 : k = 0
      · have hu7 := HNIL.out hk0
        have HK0 := Lib.hid hk0
        clear hk0
        subst hu7
        have HOW := Lib.hid hOW
        clear hOW
        go_region_law (refine step_append_none rfl (.tmp 51) (.tmp 52) 22 rfl B 3 i0 1 Tryd.underlying22 HI.out (.slice (some ⟨w2.heap.size, 0, none⟩) 2 2) 2 [.int .i64 r, .int .i64 r] (by simp [Act.eval, Act.put]) (by exact HOW.out) (by simp [Act.eval, Act.put]) ?_)
        all_goals clear hmd hwx hm0 hm1
        all_goals go_wp2
        all_goals
          refine ⟨?_, by simp [intOf]; omega⟩
          have hk0 := HK0.out
          refine of_rel hlt HSN.out HRR.out (HOA2.out.alloc _) ?_ ?_ ?_ ?_
          · subst hk0
            exact HOW.out
          · right
            simp only [Value.ownBlock]
            intro e
            injection e with e
            have : g1 = w2.heap.size := e
            omega
          · exact (HB2.out.alloc (by omega) _).drew
          · simp; omega
      · obtain ⟨gb, cb, hub, hgb, hgl⟩ := HOB2.out.form (by omega)
        subst hub
        have HOW := Lib.hid hOW
        have hnw : ∀ j u, ((dupL (resL m (xs.take k))).map V64)[j]? = some u → (w2.alloc (.cells #[.int .i64 r, .int .i64 r] 3)).cell? ((⟨gb, 0, none⟩ : Addr).add j) = some u := by
          intro j u hj
          have hjl : j < 2 * k := by
            rcases Nat.lt_or_ge j (2 * k) with h | h
            · exact h
            · rw [List.getElem?_eq_none (by rw [List.length_map, dup_len m xs k hk]; exact h)] at hj; cases hj
          have hadd : (⟨gb, 0, none⟩ : Addr).add j = ⟨gb, j, none⟩ := by by_cases h0 : j = 0 <;> simp [Addr.add, h0]
          rw [hadd, World.cell?_alloc_lt _ _ ⟨gb, j, none⟩ hgl, ← hj]
          obtain ⟨_, hcase⟩ := HOB2.out
          rcases hcase with ⟨h1, _⟩ | ⟨g', cap', cur, h1, h2, h3, h4, h5, h6, h7⟩
          · cases h1
          · injection h1 with h1a _ _
            injection h1a with h1b
            injection h1b with h1c _ _
            subst h1c
            have := congrArg (fun l : List Value => l[j]?) h7
            simp only [List.getElem?_take] at this
            rw [if_pos (by omega)] at this
            simp only [World.cell?, h3]
            simpa using this
        have HNW := Lib.hid hnw
        have HNL := Lib.hid (show ((dupL (resL m (xs.take k))).map V64).length = 2 * k * 1 by rw [List.length_map, dup_len m xs k hk]; omega)
        have HN1 := Lib.hid (show ∀ u ∈ (dupL (resL m (xs.take k))).map V64, u.oneCell' = true from fun u hu => by obtain ⟨y, _, rfl⟩ := List.mem_map.1 hu; rfl)
        have HK0 := Lib.hid hk0
        have hk0' : 0 < 2 * k := by omega
        clear hOW hnw hk0
        go_region_law (refine step_append_lies _ rfl (.tmp 51) (.tmp 52) 22 rfl B 3 i0 (.int .i64 0) 1 8 Tryd.underlying22 HI.out HZ0.out HZ1.out HZ2.out rfl (by decide) (.slice (some ⟨w2.heap.size, 0, none⟩) 2 2) 2 [.int .i64 r, .int .i64 r] (by simp [Act.eval, Act.put]) (by exact HOW.out) ⟨gb, 0, none⟩ (2 * k) cb ((dupL (resL m (xs.take k))).map V64) (by simp [Act.eval, Act.put]) HNL.out (by exact HNW.out) HN1.out hk0' (by unfold maxLen; omega) (by omega) (by simp; omega) (w2.heap.size + 1) (by simp) ?_; intro g2 cap2 w3 hown3 hgrow3 hat3 hlt3)
        all_goals
          have HO3 := Lib.hid hown3
          have HG3 := Lib.hid hgrow3
          have HA3 := Lib.hid hat3
          clear hown3 hgrow3 hat3 hmd hwx hm0 hm1
          go_wp2
        all_goals
          refine ⟨?_, by simp [intOf]; omega⟩
          have hz3 : w2.heap.size + 1 ≤ w3.heap.size := by have := HG3.out.size; simpa using this
          have hg2 : w2.heap.size ≤ g2 := by
            rcases HA3.out with h | h
            · simp only [Value.ownBlock] at h
              injection h with h
              have : w2.heap.size = g2 := h
              omega
            · omega
          refine of_rel hlt HSN.out HRR.out (World.ownsRow.kept (by exact HOA2.out.alloc _) HG3.out ?_) ?_ ?_ ?_ ?_
          · right
            simp only [Value.ownBlock]
            intro e
            injection e with e
            have : g1 = w2.heap.size := e
            omega
          · rw [show 2 * (k + 1) = 2 + 2 * k by omega]; exact HO3.out
          · right
            simp only [Value.ownBlock]
            intro e
            injection e with e
            have : g1 = g2 := e
            omega
          · exact Below.grown (show Below w.heap.size w _ from (HB2.out.alloc (by omega) _).drew) HG3.out (by simp; omega) (fun j hj => by simp only [Value.ownBlock] at hj; injection hj with hj; have : w2.heap.size = j := hj; omega)
          · omega
    · have hd : decide (k < xs.length) = false := by simp; omega
      have ek : k = xs.length := by omega
      have HRA := Lib.hid (Reads.of_ownsI (xs := resL m xs) (v := u6) (w := wr) (base := B) (by
        have h := HOA.out
        rw [ek, List.take_length] at h
        rw [show (resL m xs).length = xs.length by simp [resL]]; exact h))
      have HRB := Lib.hid (Reads.of_ownsI (xs := dupL (resL m xs)) (v := u7) (w := wr) (base := B) (by
        have h := HOB.out
        have hl := dup_len m xs k hk
        rw [ek, List.take_length] at h hl
        rw [hl]; exact h))
      have hla : (resL m xs).length = xs.length := by simp [resL]
      have hlb : (dupL (resL m xs)).length = 2 * xs.length := by have hl := dup_len m xs k hk; rw [ek, List.take_length] at hl; exact hl
      have HEN := Lib.hid (show (1 + (m : Int)).toNat = m + 1 by omega)
      clear HOA HOB HNE HNIL ek
      go_wp2_with fail
      clear hd
      refine (of_int _ (by omega) (by omega) HRA.out (by omega)).mono ?_
      rw [HEN.out]
      rintro e w2 ⟨hb2, hcase⟩
      rcases hcase with ⟨hwi, rfl, hsx⟩ | ⟨hno, _⟩
      · have HB2 := Lib.hid (HBR.out.trans (hb2.mono hbs))
        have HSX := Lib.hid hsx
        have HRB2 := Lib.hid (HRB.out.below hb2)
        have hz2 := hb2.size
        have hl2 := hsx.lt_b'
        obtain ⟨hl2a, hl2b⟩ := hl2
        clear hb2 hsx hwi HBR HRA HRB
        generalize hcx : wr.heap.size = cx at *
        have HCX := Lib.hid hcx
        clear hcx
        go_wp2_with fail
        refine (of_int _ (by omega) (by omega) HRB2.out (by omega)).mono ?_
        rw [HEN.out]
        rintro e w3 ⟨hb3, hcase⟩
        rcases hcase with ⟨hwi, rfl, hsy⟩ | ⟨hno, _⟩
        · have HB3 := Lib.hid (HB2.out.trans (hb3.mono (by omega)))
          have HSX3 := Lib.hid (HSX.out.below hb3)
          have HSY := Lib.hid (hsy.congr (hasL_dup (resL m xs)))
          have hz3 := hb3.size
          clear hb3 hsy hwi HB2 HSX HRB2
          generalize hcy : w2.heap.size = cy at *
          have HCY := Lib.hid hcy
          clear hcy
          go_wp2_with fail
          refine (same_set HSX3.out HSY.out).mono ?_
          rintro e wq ⟨rfl, kq, rfl⟩
          rw [show (decide (m + 1 = m + 1) && !chgF (m + 1) (hasL (resL m xs)) (hasL (resL m xs))) = true by rw [chgF_self]; simp]
          have HSX4 := Lib.hid (HSX3.out.drewN kq)
          have HSY4 := Lib.hid (HSY.out.drewN kq)
          have HB4 := Lib.hid (below_drewN HB3.out kq)
          have hz4 : w3.heap.size ≤ (w3.drewN kq).heap.size := Nat.le_refl _
          generalize w3.drewN kq = w4 at *
          clear HSX3 HSY HB3
          go_wp2_with fail
          refine (items_set HSX4.out (HG.out.below HB4.out).tab).mono ?_
          rintro e w5 ⟨v5, rfl, hown5, hb5⟩
          have HR5 := Lib.hid (Reads.of_owns hown5)
          have HSX5 := Lib.hid (HSX4.out.below hb5)
          have HSY5 := Lib.hid (HSY4.out.below hb5)
          have HB5 := Lib.hid (HB4.out.trans (hb5.mono (by omega)))
          have hz5 := hb5.size
          clear hown5 hb5 HSX4 HSY4 HB4
          go_wp2_with fail
          refine (items_set HSY5.out (HG.out.below HB5.out).tab).mono ?_
          rintro e w6 ⟨v6, rfl, hown6, hb6⟩
          have HR6 := Lib.hid (Reads.of_owns hown6)
          have HR56 := Lib.hid (HR5.out.below hb6)
          have HSX6 := Lib.hid (HSX5.out.below hb6)
          have HB6 := Lib.hid (HB5.out.trans (hb6.mono (by omega)))
          have hz6 := hb6.size
          have hlc := count_le (m + 1) (resL m xs)
          clear hown6 hb6 HSX5 HSY5 HB5 HR5
          go_wp2_with fail
          refine (ints_set HR56.out HR6.out (by rw [List.length_map]; omega) (by rw [List.length_map]; omega)).mono ?_
          rintro e w7 ⟨rfl, k7, rfl⟩
          rw [decide_eq_true (rfl : (its (m + 1) (hasL (resL m xs))).map (fun x : Nat => (x : Int)) = (its (m + 1) (hasL (resL m xs))).map (fun x : Nat => (x : Int)))]
          have HSX7 := Lib.hid (HSX6.out.drewN k7)
          have HB7 := Lib.hid (below_drewN HB6.out k7)
          generalize w6.drewN k7 = w7 at *
          clear HSX6 HB6 HR56 HR6
          go_wp2_with fail
          refine (count_set HSX7.out).mono ?_
          rintro e wq ⟨rfl, hwq⟩
          rw [hwq]
          clear hwq wq
          generalize (its (m + 1) (hasL (resL m xs))).length = Lc at *
          have hlc' : (Lc : Int) ≤ (xs.length : Int) := by omega
          have hlc2 : Lc ≤ xs.length := by omega
          go_wp2
          go_ret
          exact ⟨by simp [hlc2], HB7.out⟩
        · exact absurd (within_dup (resL_within m xs)) hno
      · exact absurd (resL_within m xs) hno
end Go.Proofs.YtmdmanhjgbpgoaaDoor
