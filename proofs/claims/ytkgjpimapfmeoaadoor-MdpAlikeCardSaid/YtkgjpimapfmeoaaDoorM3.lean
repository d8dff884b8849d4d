/-
  leadRight, holdRight, walked; slices that a call makes.
-/
import Derived.Test.YtkgjpimapfmeoaaDoorM2
import Derived.OwnWalk
namespace Go.Proofs.YtkgjpimapfmeoaaDoor
open Go.RowKit

theorem owns_full {w : World} {base n g : Nat} {e : TypeId} {cs : List Value} (h : w.ownsRow base e 1 (.slice (some ⟨g, 0, none⟩) n n) n cs) : Bx w g e cs := by
  rcases h.2 with ⟨hv, _⟩ | ⟨g', cap, cur, hv, _, h3, _, _, h6, h7⟩
  · cases hv
  · simp only [Value.slice.injEq, Option.some.injEq, Addr.mk.injEq] at hv
    obtain ⟨⟨rfl, _, _⟩, _, rfl⟩ := hv
    have : cs = cur.toList := by
      rw [← h7, List.take_of_length_le]
      rw [Array.length_toList]
      omega
    subst this
    exact h3
theorem made_one (z : Value) (n : Nat) : (madeCells #[z] n).toList = List.replicate n z := by
  rw [List.eq_replicate_iff]
  constructor
  · rw [Array.length_toList, size_madeCells]
  · intro u hu
    unfold madeCells at hu
    simp only [Array.toList_map, Array.toList_range, List.mem_map] at hu
    obtain ⟨j, _, rfl⟩ := hu
    have : j % (#[z] : Array Value).size = 0 := Nat.mod_one j
    rw [this]
    rfl
theorem infoI : (Tryd.prog.info? 3).map (fun i => (i.zero, i.size, i.bytes)) = some (some (.int .i64 0), 1, 8) := by kernel_rfl
theorem la_made {w : World} {q n : Nat} (h : Bx w q 3 (List.replicate n (.int .i64 0))) : La w q n 0 (List.replicate n 0) :=
  ⟨by rw [List.map_replicate]; exact h, List.length_replicate, fun t ht => by rw [List.getElem_replicate]; exact Int.le_refl 0⟩
theorem La.below {w w' : World} {q n : Nat} {c : Int} {l : List Int} (h : La w q n c l) (hb : Below w.heap.size w w') : La w' q n c l := ⟨h.1.below hb, h.2⟩
def LdRel (l : List (List ChO)) (n q : Nat) (w0 : World) (c i : Value) (wr : World) : Prop :=
  ∃ (k cnt : Nat) (ls : List Int), c = .int .i64 (cnt : Int) ∧ i = .int .i64 (k : Int) ∧ k ≤ l.length ∧ cnt ≤ 1000000 * k ∧ La wr q n (cnt : Int) ls ∧ (∀ cs ∈ l.take k, chR n cs) ∧ Below w0.heap.size w0 wr
def LdIn (cs : List ChO) (n q k : Nat) (w0 : World) (c j : Value) (wr : World) : Prop :=
  ∃ (m cnt : Nat) (ls : List Int), c = .int .i64 (cnt : Int) ∧ j = .int .i64 (m : Int) ∧ m ≤ cs.length ∧ cnt ≤ 1000000 * k + m ∧ La wr q n (cnt : Int) ls ∧ (∀ c ∈ cs.take m, movR n c.mv) ∧ Below w0.heap.size w0 wr
theorem lead_no {l : List (List ChO)} {n k : Nat} (hk : k < l.length) (h : ¬ chR n l[k]) : false = decide (leadR n l) := (decide_eq_false fun hm => h (hm _ (List.getElem_mem hk))).symm
theorem ch_no {cs : List ChO} {n k : Nat} (hk : k < cs.length) (h : ¬ movR n cs[k].mv) : ¬ chR n cs := fun hm => h (hm.2 _ (List.getElem_mem hk))
set_option maxHeartbeats 4000000 in
theorem lead_any {A : Option Addr} {l : List (List ChO)} {cap : Nat} (w : World) (hl : LSl w A l) (hlen : l.length ≤ 1000000) (hcs : ∀ cs ∈ l, cs.length ≤ 1000000) (hmv : ∀ cs ∈ l, ∀ c ∈ cs, c.mv.length ≤ 1000000) :
    Calls Tryd.prog 34 #[.slice A l.length cap] w (BoolP (decide (leadR l.length l)) w) := by
  obtain ⟨i0, hi0, hz⟩ := Option.map_eq_some_iff.1 infoI
  simp only [Prod.mk.injEq] at hz
  obtain ⟨hz0, hz1, hz2⟩ := hz
  have HI := Lib.hid hi0
  have HZ0 := Lib.hid hz0
  have HZ1 := Lib.hid hz1
  have HZ2 := Lib.hid hz2
  have HL := Lib.hid hl
  have HCS := Lib.hid hcs
  have HMV := Lib.hid hmv
  obtain ⟨n, hn⟩ : ∃ n, n = l.length := ⟨_, rfl⟩
  have HN := Lib.hid hn
  rw [← hn] at hlen ⊢
  clear hl hcs hmv hn hi0 hz0 hz1 hz2
  go_enter Tryd.func34, Tryd.ntmps34
  go_wp2_with (at_make; refine wpList_make_full _ rfl _ _ 36 rfl w.heap.size 3 i0 (.int .i64 0) 1 Tryd.underlying36 HI.out HZ0.out HZ1.out .i64 .i64 (n : Int) (n : Int) n rfl rfl rfl rfl (by rw [HZ2.out]; omega) (by unfold maxLen; omega) (Nat.le_refl _) ?_)
  intro w1 ho1 hg1
  rw [made_one] at ho1
  have HB1 := Lib.hid ((Below.refl w.heap.size w).grown hg1 (Nat.le_refl _) (fun k hk => by cases hk))
  have HX1 := Lib.hid (la_made (owns_full ho1))
  clear ho1 hg1
  go_wp2
  go_loopw [4, 14] (fun c i wr => LdRel l n w.heap.size w c i wr) (fun _ i _ => n - (intOf i).toNat)
  case atStart => exact ⟨0, 0, _, rfl, rfl, Nat.zero_le _, by omega, HX1.out, fun c hc => absurd hc (by simp), HB1.out⟩
  case round =>
    obtain ⟨k, cnt, ls, rfl, rfl, hk, hct, hla, hgd, hb⟩ := hrel
    have HLA := Lib.hid hla
    have HGD := Lib.hid hgd
    have HB := Lib.hid hb
    have hzb := hb.size
    clear hla hgd hb
    by_cases hlt : k < n
    · have d1 : decide (k < n) = true := by simp; omega
      have kk : k < l.length := by rw [← HN.out]; exact hlt
      obtain ⟨g, o, B, cap1, rfl, c1, hc1, hcl⟩ := HL.out k kk
      replace c1 := cell_blw HB.out c1
      have HLL := Lib.hid HL
      clear HL
      have HCL := Lib.hid hcl
      have hlk : l[k].length ≤ 1000000 := HCS.out _ (List.getElem_mem kk)
      have HMK := Lib.hid (HMV.out _ (List.getElem_mem kk))
      have HBAD := Lib.hid (fun h => lead_no (n := n) kk h)
      have HGOOD := Lib.hid (fun (h : chR n l[k]) => show ∀ cs ∈ l.take (k + 1), chR n cs from fun cs hcs => by
        rw [take_snoc kk, List.mem_append] at hcs
        rcases hcs with hcs | hcs
        · exact HGD.out cs hcs
        · simp only [List.mem_singleton] at hcs; subst hcs; exact h)
      generalize l[k] = cs at *
      obtain ⟨L, hL⟩ : ∃ L, L = cs.length := ⟨_, rfl⟩
      have HLN := Lib.hid hL
      rw [← hL] at c1 hc1 hlk
      clear hcl hL hk
      by_cases h0 : L = 0
      · subst h0
        have HR := Lib.hid (HBAD.out fun hm => hm.1 (List.eq_nil_of_length_eq_zero HLN.out.symm))
        go_wp2_with fail
        go_ret
        exact ⟨ret_bool HR.out, HB.out⟩
      · have d2 : ((L : Int) == 0) = false := by simp; omega
        go_wp2_with fail
        go_loopw [4, 23] (fun c j wr => LdIn cs n w.heap.size k w c j wr) (fun _ j _ => L - (intOf j).toNat)
        case atStart => exact ⟨0, cnt, ls, rfl, rfl, Nat.zero_le _, by omega, HLA.out, fun c hc => absurd hc (by simp), HB.out⟩
        case round =>
          obtain ⟨m, cn, lm, rfl, rfl, hm, hcn, hla, hgd, hb⟩ := hrel
          have HLA := Lib.hid hla
          have HGD2 := Lib.hid hgd
          have HB := Lib.hid hb
          have hzb := hb.size
          clear hla hgd hb
          by_cases hmt : m < L
          · have d3 : decide (m < L) = true := by simp; omega
            have mm : m < cs.length := by rw [← HLN.out]; exact hmt
            obtain ⟨g2, o2, B2, cap2, rfl, e1, e2, hc2, hms⟩ := HCL.out m mm
            replace e1 := cell_blw HB.out e1
            replace e2 := cell_blw HB.out e2
            have e2' := e2
            rw [← Nat.add_assoc] at e2'
            have HMS := Lib.hid hms
            have hml := HMK.out _ (List.getElem_mem mm)
            have HNO := Lib.hid (fun (h : ¬ movR n cs[m].mv) => HBAD.out (ch_no mm h))
            have HYES := Lib.hid (fun (h : movR n cs[m].mv) => show ∀ c ∈ cs.take (m + 1), movR n c.mv from fun c hc => by
              rw [take_snoc mm, List.mem_append] at hc
              rcases hc with hc | hc
              · exact HGD2.out c hc
              · simp only [List.mem_singleton] at hc; subst hc; exact h)
            clear HCL
            generalize cs[m] = ch at *
            have HQ := Lib.hid (moves_any (A := B2) (l := ch.mv) (cap := cap2) (n := n) (q := w.heap.size) (N := n) (num := (cn : Int) + 1) (ls := lm) (w0 := w) (wr.alloc (.cells #[.string ch.act, .slice B2 ch.mv.length cap2] 49)) HMS.out (by omega) (HB.out.alloc hzb _) (Nat.le_refl _) (by have := HLA.out.below (below_alloc wr (.cells #[.string ch.act, .slice B2 ch.mv.length cap2] 49)); simpa using this))
            clear hms hm
            go_wp2_with fail
            with_reducible refine (HQ.out).mono ?_
            rintro e w2 ⟨rfl, ⟨ls2, hl2⟩, hb2⟩
            have HL2 := Lib.hid hl2
            have HB2 := Lib.hid hb2
            clear hl2 hb2
            by_cases hr : movR n ch.mv
            · have HM := Lib.hid (HYES.out hr)
              rw [decide_eq_true hr]
              clear hr
              go_wp2_with fail
              go_roundw
              case rel => exact ⟨m + 1, cn + 1, ls2, by go_num, by go_num, by rw [← HLN.out]; omega, by omega, by have := HL2.out; push_cast; exact this, HM.out, HB2.out⟩
              case measure => simp [intOf]; omega
            · have HR := Lib.hid (HNO.out hr)
              rw [decide_eq_false hr]
              clear hr
              go_wp2_with fail
              go_ret
              exact ⟨ret_bool HR.out, HB2.out⟩
          · have d3 : decide (m < L) = false := by simp; omega
            have hml : m = L := by have := HLN.out; omega
            subst hml
            have HG := Lib.hid (HGOOD.out ⟨fun e => by subst e; exact h0 HLN.out, by have := HGD2.out; rwa [HLN.out, List.take_of_length_le (Nat.le_refl _)] at this⟩)
            clear hmt
            go_wp2
            go_roundw
            case rel => exact ⟨k + 1, cn, lm, rfl, by go_num, by rw [← HN.out]; omega, by omega, HLA.out, HG.out, HB.out⟩
            case measure => simp [intOf]; omega
    · have d1 : decide (k < n) = false := by simp; omega
      have hkl : k = n := by have := HN.out; omega
      subst hkl
      have HR := Lib.hid (show true = decide (leadR k l) from (decide_eq_true (by have h := HGD.out; rw [List.take_of_length_le (by rw [HN.out]; exact Nat.le_refl _)] at h; exact h)).symm)
      clear hlt hk
      go_wp2
      go_ret
      exact ⟨ret_bool HR.out, HB.out⟩
end Go.Proofs.YtkgjpimapfmeoaaDoor
