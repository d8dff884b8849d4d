/-
  A model told: branches, commands, modules, all of it.
-/
import Derived.Test.YtodijgndbjfbgaaGreatDoorT7
import Derived.Test.YtodijgndbjfbgaaGreatDoorGH
namespace Go.Proofs.YtodijgndbjfbgaaGreatDoor
open Go.RowKit Go.Sort

theorem bl_grow (w : World) (k : Nat) (os : Array Obj) : Below w.heap.size w (grow (w.drewN k) os) := by
  have h := below_drewN (Below.refl w.heap.size w) k
  refine ⟨h.os, h.tape, h.output, ?_, fun j hj => ?_⟩
  · show w.heap.size ≤ ((w.drewN k).heap ++ os).size
    have := h.size
    rw [Array.size_append]
    omega
  · show ((w.drewN k).heap ++ os)[j]? = _
    have := h.size
    rw [Array.getElem?_append_left (by omega)]
    exact h.block j hj
theorem fmtint_any (n : Nat) (hn : n < 9223372036854775808) (w : World) (hT : Tabs w) : Calls Tryz.prog 120 #[.int .i64 (n : Int), .int .i64 10] w (TlP (dgs n) w) := by
  have H := Lib.hid (Tryz.internal_strconv_FormatInt_10 (n : Int) (by omega) (by omega) w hT)
  have HE := Lib.hid (show Lib.itoa (n : Int) = dgs n by unfold Lib.itoa; rw [if_neg (by omega)]; rfl)
  clear hT
  go_enter Tryz.func120, Tryz.ntmps120
  go_wp2_with fail
  refine (H.out).mono ?_
  rintro e w1 ⟨rfl, k, os, rfl⟩
  rw [HE.out]
  go_wp2
  go_ret
  exact ⟨rfl, bl_grow w k os⟩
def BOk (b : BrO) : Prop := b.wt < 9223372036854775808 ∧ (∀ s ∈ b.sets, DOk s) ∧ (tlBr b).length ≤ 1000000 ∧ b.sets.length ≤ 1000000
theorem tlBr_eq (b : BrO) : tlBr b = dgs b.wt ++ ([32, 58, 32] ++ tlSets b.sets) := rfl
set_option maxHeartbeats 2000000 in
set_option maxRecDepth 100000 in
theorem tbr_any : ToldC 97 BH BOk tlBr := by
  intro d w b c hok hp hT
  obtain ⟨A, cap, rfl, hrow⟩ := hp
  have hlen := hok.2.2.1
  rw [tlBr_eq] at hlen
  simp only [List.length_append, List.length_cons, List.length_nil] at hlen
  have HF := Lib.hid (fun (W : World) (hW : Below w.heap.size w W) => fmtint_any d.wt hok.1 W (tabs_on hT hW))
  obtain ⟨t, ht, hts⟩ := str_ofM (dgs d.wt) 1000000 (by omega)
  have HT := Lib.hid ht
  change Calls Tryz.prog 97 #[.agg #[.int .i64 ((d.wt : Nat) : Int), .slice A d.sets.length cap, .int .i64 ((d.pos : Nat) : Int)]] w _
  generalize hz : ((d.pos : Nat) : Int) = z
  clear hz
  cases hs : d.sets with
  | nil =>
    have HE := Lib.hid (show tlBr d = dgs d.wt ++ ([32, 58, 32] ++ opTrue) by rw [tlBr_eq, hs]; rfl)
    have n1 : ¬ 9223372036854775807 < t.size + 3 := by omega
    have n2 : ¬ 9223372036854775807 < t.size + 3 + 4 := by omega
    obtain ⟨q, hq⟩ : ∃ q : Int, q = ((d.wt : Nat) : Int) := ⟨_, rfl⟩
    rw [← hq] at HF ⊢
    clear hok hrow hT hlen ht hq
    have hl0 : (([] : List DefO).length : Int) = 0 := rfl
    go_enter Tryz.func97, Tryz.ntmps97
    go_wp2_with fail
    refine (HF.out _ ((Below.refl _ _).alloc (Nat.le_refl _) _)).mono ?_
    rintro e w1 ⟨rfl, hb1⟩
    rw [show strV (dgs d.wt) = .string t by rw [← HT.out]; rfl]
    have HB := Lib.hid (((Below.refl w.heap.size w).alloc (Nat.le_refl _) _).trans (hb1.mono (by simp)))
    clear hb1
    go_wp2
    go_ret
    exact ⟨ret_strM (by rw [HE.out]; simp [HT.out, opTrue]), HB.out⟩
  | cons s0 sr =>
    rw [← hs]
    have hpos : 0 < d.sets.length := by rw [hs]; simp
    have HE := Lib.hid (show tlBr d = dgs d.wt ++ ([32, 58, 32] ++ joinL [32, 38, 32] (d.sets.map tlSet)) by rw [tlBr_eq]; unfold tlSets; rw [if_neg (by rw [hs]; simp)])
    have hjl : (joinL [32, 38, 32] (d.sets.map tlSet)).length ≤ 1000000 := by
      have h1 : tlSets d.sets = joinL [32, 38, 32] (d.sets.map tlSet) := by unfold tlSets; rw [if_neg (by rw [hs]; simp)]
      rw [h1] at hlen
      omega
    have HS := Lib.hid (fun (W : World) (hW : Below w.heap.size w W) => taset_any tset_any W (hrow.keep (Kt.below (E := E0) hW) id (fun _ _ h => h.keep (Kt.below (E := E0) hW) id)) hok.2.1 (tabs_on hT hW) (by have := hok.2.2.2; omega) ⟨#[32, 38, 32]⟩ (by show (joinL [32, 38, 32] _).length ≤ _; omega))
    obtain ⟨u, hu, hus⟩ := str_ofM (joinL [32, 38, 32] (d.sets.map tlSet)) 1000000 hjl
    have HU := Lib.hid hu
    have n1 : ¬ 9223372036854775807 < t.size + 3 := by omega
    have n2 : ¬ 9223372036854775807 < t.size + 3 + u.size := by omega
    have HL := Lib.hid hok.2.2.2
    obtain ⟨n, hn⟩ : ∃ n, n = d.sets.length := ⟨_, rfl⟩
    have hln : n ≤ 1000000 := by have := HL.out; omega
    rw [← hn] at HS hpos ⊢
    obtain ⟨q, hq⟩ : ∃ q : Int, q = ((d.wt : Nat) : Int) := ⟨_, rfl⟩
    rw [← hq] at HF ⊢
    clear hok hrow hT hlen ht hq hu hjl hn hs HL
    have c1 : decide ((0 : Int) < (n : Int)) = true := by simp; omega
    have c2 : decide (0 < n) = true := by simp; omega
    have LK := Lib.hid (BXm.new w 54 [.int .i64 q, .slice A n cap, .int .i64 z])
    go_enter Tryz.func97, Tryz.ntmps97
    go_wp2_with fail
    refine ((show BXm w _ 54 [.int .i64 q, .slice A n cap, .int .i64 z] from LK.out).callT HS.out HU.out).mono ?_
    rintro e w1 ⟨rfl, lk⟩
    have e0 := lk.bx.cell 0
    simp only [List.getElem?_cons_zero] at e0
    have hlb := lk.bx.lt
    have LK1 := Lib.hid lk
    clear lk LK
    go_wp2_with fail
    refine (LK1.out.callT HF.out HT.out).mono ?_
    rintro e w2 ⟨rfl, lk⟩
    have LK2 := Lib.hid lk
    clear lk
    go_wp2
    go_ret
    exact ⟨ret_strM (by rw [HE.out]; simp [HT.out, HU.out]), LK2.out.bl⟩
set_option maxHeartbeats 4000000 in
set_option maxRecDepth 100000 in
theorem tabr_any (hTC : ToldC 97 BH BOk (tlBr)) {xs : List BrO} {A : Option Addr} {cap b : Nat} (w : World) (h : Row w b 54 3 (BH w b) xs (.slice A xs.length cap)) (hok : ∀ x ∈ xs, BOk x) (hTab : Tabs w) (hn : xs.length ≤ 2000000) (sep : ByteArray) (hl : (joinL sep.data.toList (xs.map (tlBr))).length ≤ 100000000) :
    Calls Tryz.prog 96 #[.slice A xs.length cap, .string sep, .func (.func 97) #[] #[]] w (TlP (joinL sep.data.toList (xs.map (tlBr))) w) := by
  obtain ⟨i0, hi0, hz⟩ := Option.map_eq_some_iff.1 infoStr
  simp only [Prod.mk.injEq] at hz
  obtain ⟨hz0, hz1, hz2⟩ := hz
  have HI := Lib.hid hi0
  have HZ0 := Lib.hid hz0
  have HZ1 := Lib.hid hz1
  have HZ2 := Lib.hid hz2
  obtain ⟨n, hnn⟩ : ∃ n, n = xs.length := ⟨_, rfl⟩
  have HN := Lib.hid hnn
  rw [← hnn] at hn h ⊢
  have HR := Lib.hid h
  have HOK := Lib.hid hok
  have HTB := Lib.hid hTab
  have HLN := Lib.hid hl
  have HTC := Lib.hid hTC
  clear h hnn hi0 hz0 hz1 hz2 hok hTab hl hTC
  go_enter Tryz.func96, Tryz.ntmps96
  go_wp2_with (at_make; refine wpList_make_full _ rfl _ _ 135 rfl w.heap.size 9 i0 (.string ⟨#[]⟩) 1 Tryz.underlying135 HI.out HZ0.out HZ1.out .i64 .i64 (n : Int) (n : Int) n rfl rfl rfl rfl (by rw [HZ2.out]; omega) (by unfold maxLen; omega) (Nat.le_refl _) ?_)
  intro w1 ho1 hg1
  rw [made_empty] at ho1
  have HB1 := Lib.hid ((Below.refl w.heap.size w).grown hg1 (Nat.le_refl _) (fun k hk => by cases hk))
  have HX1 := Lib.hid (owns_full ho1)
  clear ho1 hg1
  go_wp2
  go_loopw [15] (fun i wr => TaRel (tlBr) xs n w i wr) (fun i _ => n - (intOf i).toNat)
  case atStart => exact ⟨0, rfl, Nat.zero_le _, by rw [toldA_zero]; exact HX1.out, HB1.out⟩
  case round =>
    obtain ⟨k, rfl, hk, hX, hB⟩ := hrel
    by_cases hlt : k < n
    · have c4 : decide ((k : Int) < (n : Int)) = true := by simp; omega
      have c5 : decide (k < n) = true := by simpa using hlt
      have kk : k < xs.length := by rw [← HN.out]; exact hlt
      have hRow := HR.out.keep (Kt.below (E := E0) hB) id (fun _ _ h => (fun (hk : Kt b E0 w wr) => h.keep hk id id) (Kt.below (E := E0) hB))
      have hTb := tabs_on HTB.out hB
      obtain ⟨g, c, hA, hg, hp, hcell⟩ := hRow.get (fun _ _ h => h.len) k kk
      subst hA
      have HB := Lib.hid hB
      have HX := Lib.hid hX
      have HTb := Lib.hid hTb
      have hts : k < (xs.map (tlBr)).length := by rw [List.length_map]; exact kk
      have HSET := Lib.hid (toldA_set (ts := xs.map (tlBr)) hlt (by rw [List.length_map]; exact HN.out))
      have HAT := Lib.hid (toldA_at (ts := xs.map (tlBr)) hlt (by rw [List.length_map]; exact HN.out))
      obtain ⟨d, hdel, hdok, hdp⟩ : ∃ d, (xs.map (tlBr))[k]'hts = (tlBr) d ∧ BOk d ∧ BH wr b d c := ⟨xs[k], List.getElem_map _, HOK.out _ (List.getElem_mem kk), hp⟩
      have HEL := Lib.hid hdel
      have HOKK := Lib.hid hdok
      have HP := Lib.hid hdp
      clear hRow hTb hB hX hp hdel hdok
      obtain ⟨A1, cap1, rfl, -⟩ := hdp
      have e0 := hcell 0 _ rfl
      have e1 := hcell 1 _ rfl
      have e2 := hcell 2 _ rfl
      simp only [Nat.add_zero] at e0
      have HC := Lib.hid (fun (W : World) (hW : Below wr.heap.size wr W) => HTC.out d W b _ HOKK.out ((fun h (hk : Kt b E0 wr W) => h.keep hk id id) HP.out (Kt.below (E := E0) hW)) (tabs_on HTb.out hW))
      clear hcell
      go_wp2_with fail
      refine (HC.out _ ((Below.refl _ _).alloc (Nat.le_refl _) _)).mono ?_
      rintro e w3 ⟨rfl, hb3⟩
      have HB3 := Lib.hid (((Below.refl wr.heap.size wr).alloc (Nat.le_refl _) _).trans (hb3.mono (by simp)))
      have hX3 := HX.out.below HB3.out
      have hl3 := hX3.lt
      have hfz := hX3.frozen k
      have hcl : w3.cell? ⟨w.heap.size, k, none⟩ = some (.string ⟨#[]⟩) := (hX3.cell k).trans HAT.out
      have HX3 := Lib.hid hX3
      clear hb3 hX3
      obtain ⟨tb, htb⟩ : ∃ t : ByteArray, strV ((tlBr) d) = .string t := ⟨_, rfl⟩
      rw [htb]
      have HST := Lib.hid (show (toldA (xs.map (tlBr)) k n).set k (.string tb) = toldA (xs.map (tlBr)) (k + 1) n by rw [← htb, ← HEL.out]; exact HSET.out)
      clear htb
      go_wp2
      have HSX := Lib.hid (HX3.out.set k (.string tb))
      go_roundw
      case rel => exact ⟨k + 1, by go_num, by omega, by rw [← HST.out]; exact HSX.out, (HB.out.trans (HB3.out.mono HB.out.size)).setCell (p := ⟨w.heap.size, k, none⟩) (Nat.le_refl _) _⟩
      case measure => simp [intOf]; omega
    · have c4 : decide ((k : Int) < (n : Int)) = false := by simp; omega
      have c5 : decide (k < n) = false := by simpa using hlt
      have hkn : k = n := by omega
      rw [hkn] at hX
      obtain ⟨ss, hs1, hs2⟩ := strs_of (xs.map (tlBr))
      have hsn : n = ss.length := by
        have h1 := congrArg List.length hs1
        rw [List.length_map, List.length_map] at h1
        have := HN.out
        omega
      have HCL := Lib.hid (told_cells (by rw [List.length_map]; exact HN.out) hX hs2)
      have HXl := Lib.hid hX.lt
      have HB := Lib.hid hB
      have HJ := Lib.hid (show (Lib.join (ss.map (·.data.toList)) sep.data.toList).length ≤ 140737488355328 by rw [hs1, ← joinL_eq]; have := HLN.out; omega)
      have HJE := Lib.hid (show (⟨(Lib.join (ss.map (·.data.toList)) sep.data.toList).toArray⟩ : ByteArray) = ⟨(joinL sep.data.toList (xs.map (tlBr))).toArray⟩ by rw [hs1, ← joinL_eq])
      have HSN := Lib.hid hsn
      clear hX hB hs1 hs2 hkn hsn
      go_wp2_with fail
      rw [HSN.out]
      refine (Tryz.strings_Join w.heap.size 0 ss.length ss sep wr HCL.out HXl.out (by rw [← HSN.out]; omega) (Nat.le_refl _) HJ.out).mono ?_
      rintro e w4 ⟨rfl, hb4⟩
      rw [HJE.out]
      go_wp2
      go_ret
      exact ⟨rfl, HB.out.trans (hb4.mono HB.out.size)⟩
def COk (c : CmdO) : Prop := c.act.length ≤ 1000000 ∧ XOk c.guard ∧ (∀ b ∈ c.brs, BOk b) ∧ (tlCmd c).length ≤ 1000000 ∧ c.brs.length ≤ 1000000
set_option maxHeartbeats 4000000 in
set_option maxRecDepth 100000 in
theorem tcom_any : ToldC 63 CH COk tlCmd := by
  intro d w b c hok hp hT
  obtain ⟨v, A, cap, rfl, hx, hrow⟩ := hp
  have hlen := hok.2.2.2.1
  have HE := Lib.hid (show tlCmd d = [32, 32, 91] ++ (d.act ++ ([93, 32] ++ (shO d.guard ++ ([32, 45, 62, 32] ++ (joinL [32, 43, 32] (d.brs.map tlBr) ++ [59, 10]))))) from rfl)
  rw [HE.out] at hlen
  simp only [List.length_append, List.length_cons, List.length_nil] at hlen
  have HC := Lib.hid (fun (W : World) (hW : Below w.heap.size w W) => xprint hok.2.1 W (hx.keep (Kt.below (E := E0) hW) id) (tabs_on hT hW))
  have HS := Lib.hid (fun (W : World) (hW : Below w.heap.size w W) => tabr_any tbr_any W (hrow.keep (Kt.below (E := E0) hW) id (fun _ _ h => h.keep (Kt.below (E := E0) hW) id id)) hok.2.2.1 (tabs_on hT hW) (by have := hok.2.2.2.2; omega) ⟨#[32, 43, 32]⟩ (by show (joinL [32, 43, 32] _).length ≤ _; omega))
  obtain ⟨t, ht, hts⟩ := str_ofM (shO d.guard) 1000000 (by omega)
  obtain ⟨u, hu, hus⟩ := str_ofM (joinL [32, 43, 32] (d.brs.map tlBr)) 1000000 (by omega)
  have HT := Lib.hid ht
  have HU := Lib.hid hu
  have hns : (⟨d.act.toArray⟩ : ByteArray).size ≤ 1000000 := by rw [sz_toArray]; exact hok.1
  have HNM := Lib.hid (show (⟨d.act.toArray⟩ : ByteArray).data.toList = d.act from rfl)
  change Calls Tryz.prog 63 #[.agg #[.string ⟨d.act.toArray⟩, .string v.o, .string v.nm, .int .i64 v.n, .slice v.A v.ll v.cap, .int .i64 v.p, .slice A d.brs.length cap, .int .i64 ((d.pos : Nat) : Int)]] w _
  generalize ((d.pos : Nat) : Int) = z at *
  generalize (⟨d.act.toArray⟩ : ByteArray) = nm at *
  generalize d.brs.length = n at *
  have n1 : ¬ 9223372036854775807 < 3 + nm.size := by omega
  have n2 : ¬ 9223372036854775807 < 3 + nm.size + 2 := by omega
  have n3 : ¬ 9223372036854775807 < 3 + nm.size + 2 + t.size := by omega
  have n4 : ¬ 9223372036854775807 < 3 + nm.size + 2 + t.size + 4 := by omega
  have n5 : ¬ 9223372036854775807 < 3 + nm.size + 2 + t.size + 4 + u.size := by omega
  have n6 : ¬ 9223372036854775807 < 3 + nm.size + 2 + t.size + 4 + u.size + 1 := by omega
  clear hok hx hrow hT ht hu hlen
  have LK := Lib.hid (BXm.new w 60 [.string nm, .string v.o, .string v.nm, .int .i64 v.n, .slice v.A v.ll v.cap, .int .i64 v.p, .slice A n cap, .int .i64 z])
  go_enter Tryz.func63, Tryz.ntmps63
  go_wp2_with fail
  refine ((show BXm w _ 60 [.string nm, .string v.o, .string v.nm, .int .i64 v.n, .slice v.A v.ll v.cap, .int .i64 v.p, .slice A n cap, .int .i64 z] from LK.out).callT HS.out HU.out).mono ?_
  rintro e W ⟨rfl, lk⟩
  clear LK
  go_wp2_with fail
  replace lk := lk.drew
  go_region_held3 (fun w' => w'.cell? ⟨w.heap.size, 0, none⟩ = some (.string nm) ∧ w'.cell? ⟨w.heap.size, 1, none⟩ = some (.string v.o) ∧ w'.cell? ⟨w.heap.size, 2, none⟩ = some (.string v.nm) ∧ w'.cell? ⟨w.heap.size, 3, none⟩ = some (.int .i64 v.n) ∧ w'.cell? ⟨w.heap.size, 4, none⟩ = some (.slice v.A v.ll v.cap) ∧ w'.cell? ⟨w.heap.size, 5, none⟩ = some (.int .i64 v.p)) (exact ⟨lk.bx.cell 0, lk.bx.cell 1, lk.bx.cell 2, lk.bx.cell 3, lk.bx.cell 4, lk.bx.cell 5⟩) (first
    | (go_at_call 94; (with_reducible refine (lk.callT HC.out HT.out).mono ?_); rintro e wA ⟨rfl, lk2⟩; replace lk := lk2; clear lk2)
    | (go_at_call 33; (with_reducible refine (lk.line (by simp only [ByteArray.size_append]; have e1 : (⟨#[32, 32, 91]⟩ : ByteArray).size = 3 := rfl; have e2 : (⟨#[93, 32]⟩ : ByteArray).size = 2 := rfl; have e3 : (⟨#[32, 45, 62, 32]⟩ : ByteArray).size = 4 := rfl; have e4 : (⟨#[59]⟩ : ByteArray).size = 1 := rfl; omega)).mono ?_); rintro e wA ⟨rfl, lk2⟩; replace lk := lk2; clear lk2))
  all_goals go_wp2
  all_goals go_ret
  all_goals exact ⟨ret_strM (by rw [HE.out]; simp [HT.out, HU.out, HNM.out]), lk.bl⟩
set_option maxHeartbeats 4000000 in
set_option maxRecDepth 100000 in
theorem tacom_any (hTC : ToldC 63 CH COk (tlCmd)) {xs : List CmdO} {A : Option Addr} {cap b : Nat} (w : World) (h : Row w b 60 8 (CH w b) xs (.slice A xs.length cap)) (hok : ∀ x ∈ xs, COk x) (hTab : Tabs w) (hn : xs.length ≤ 2000000) (sep : ByteArray) (hl : (joinL sep.data.toList (xs.map (tlCmd))).length ≤ 100000000) :
    Calls Tryz.prog 62 #[.slice A xs.length cap, .string sep, .func (.func 63) #[] #[]] w (TlP (joinL sep.data.toList (xs.map (tlCmd))) w) := by
  obtain ⟨i0, hi0, hz⟩ := Option.map_eq_some_iff.1 infoStr
  simp only [Prod.mk.injEq] at hz
  obtain ⟨hz0, hz1, hz2⟩ := hz
  have HI := Lib.hid hi0
  have HZ0 := Lib.hid hz0
  have HZ1 := Lib.hid hz1
  have HZ2 := Lib.hid hz2
  obtain ⟨n, hnn⟩ : ∃ n, n = xs.length := ⟨_, rfl⟩
  have HN := Lib.hid hnn
  rw [← hnn] at hn h ⊢
  have HR := Lib.hid h
  have HOK := Lib.hid hok
  have HTB := Lib.hid hTab
  have HLN := Lib.hid hl
  have HTC := Lib.hid hTC
  clear h hnn hi0 hz0 hz1 hz2 hok hTab hl hTC
  go_enter Tryz.func62, Tryz.ntmps62
  go_wp2_with (at_make; refine wpList_make_full _ rfl _ _ 135 rfl w.heap.size 9 i0 (.string ⟨#[]⟩) 1 Tryz.underlying135 HI.out HZ0.out HZ1.out .i64 .i64 (n : Int) (n : Int) n rfl rfl rfl rfl (by rw [HZ2.out]; omega) (by unfold maxLen; omega) (Nat.le_refl _) ?_)
  intro w1 ho1 hg1
  rw [made_empty] at ho1
  have HB1 := Lib.hid ((Below.refl w.heap.size w).grown hg1 (Nat.le_refl _) (fun k hk => by cases hk))
  have HX1 := Lib.hid (owns_full ho1)
  clear ho1 hg1
  go_wp2
  go_loopw [15] (fun i wr => TaRel (tlCmd) xs n w i wr) (fun i _ => n - (intOf i).toNat)
  case atStart => exact ⟨0, rfl, Nat.zero_le _, by rw [toldA_zero]; exact HX1.out, HB1.out⟩
  case round =>
    obtain ⟨k, rfl, hk, hX, hB⟩ := hrel
    by_cases hlt : k < n
    · have c4 : decide ((k : Int) < (n : Int)) = true := by simp; omega
      have c5 : decide (k < n) = true := by simpa using hlt
      have kk : k < xs.length := by rw [← HN.out]; exact hlt
      have hRow := HR.out.keep (Kt.below (E := E0) hB) id (fun _ _ h => (fun (hk : Kt b E0 w wr) => h.keep hk id id id) (Kt.below (E := E0) hB))
      have hTb := tabs_on HTB.out hB
      obtain ⟨g, c, hA, hg, hp, hcell⟩ := hRow.get (fun _ _ h => h.len) k kk
      subst hA
      have HB := Lib.hid hB
      have HX := Lib.hid hX
      have HTb := Lib.hid hTb
      have hts : k < (xs.map (tlCmd)).length := by rw [List.length_map]; exact kk
      have HSET := Lib.hid (toldA_set (ts := xs.map (tlCmd)) hlt (by rw [List.length_map]; exact HN.out))
      have HAT := Lib.hid (toldA_at (ts := xs.map (tlCmd)) hlt (by rw [List.length_map]; exact HN.out))
      obtain ⟨d, hdel, hdok, hdp⟩ : ∃ d, (xs.map (tlCmd))[k]'hts = (tlCmd) d ∧ COk d ∧ CH wr b d c := ⟨xs[k], List.getElem_map _, HOK.out _ (List.getElem_mem kk), hp⟩
      have HEL := Lib.hid hdel
      have HOKK := Lib.hid hdok
      have HP := Lib.hid hdp
      clear hRow hTb hB hX hp hdel hdok
      obtain ⟨v, A1, cap1, rfl, -⟩ := hdp
      have e0 := hcell 0 _ rfl
      have e1 := hcell 1 _ rfl
      have e2 := hcell 2 _ rfl
      have e3 := hcell 3 _ rfl
      have e4 := hcell 4 _ rfl
      have e5 := hcell 5 _ rfl
      have e6 := hcell 6 _ rfl
      have e7 := hcell 7 _ rfl
      simp only [Nat.add_zero] at e0
      have HC := Lib.hid (fun (W : World) (hW : Below wr.heap.size wr W) => HTC.out d W b _ HOKK.out ((fun h (hk : Kt b E0 wr W) => h.keep hk id id id) HP.out (Kt.below (E := E0) hW)) (tabs_on HTb.out hW))
      clear hcell
      go_wp2_with fail
      refine (HC.out _ ((Below.refl _ _).alloc (Nat.le_refl _) _)).mono ?_
      rintro e w3 ⟨rfl, hb3⟩
      have HB3 := Lib.hid (((Below.refl wr.heap.size wr).alloc (Nat.le_refl _) _).trans (hb3.mono (by simp)))
      have hX3 := HX.out.below HB3.out
      have hl3 := hX3.lt
      have hfz := hX3.frozen k
      have hcl : w3.cell? ⟨w.heap.size, k, none⟩ = some (.string ⟨#[]⟩) := (hX3.cell k).trans HAT.out
      have HX3 := Lib.hid hX3
      clear hb3 hX3
      obtain ⟨tb, htb⟩ : ∃ t : ByteArray, strV ((tlCmd) d) = .string t := ⟨_, rfl⟩
      rw [htb]
      have HST := Lib.hid (show (toldA (xs.map (tlCmd)) k n).set k (.string tb) = toldA (xs.map (tlCmd)) (k + 1) n by rw [← htb, ← HEL.out]; exact HSET.out)
      clear htb
      go_wp2
      have HSX := Lib.hid (HX3.out.set k (.string tb))
      go_roundw
      case rel => exact ⟨k + 1, by go_num, by omega, by rw [← HST.out]; exact HSX.out, (HB.out.trans (HB3.out.mono HB.out.size)).setCell (p := ⟨w.heap.size, k, none⟩) (Nat.le_refl _) _⟩
      case measure => simp [intOf]; omega
    · have c4 : decide ((k : Int) < (n : Int)) = false := by simp; omega
      have c5 : decide (k < n) = false := by simpa using hlt
      have hkn : k = n := by omega
      rw [hkn] at hX
      obtain ⟨ss, hs1, hs2⟩ := strs_of (xs.map (tlCmd))
      have hsn : n = ss.length := by
        have h1 := congrArg List.length hs1
        rw [List.length_map, List.length_map] at h1
        have := HN.out
        omega
      have HCL := Lib.hid (told_cells (by rw [List.length_map]; exact HN.out) hX hs2)
      have HXl := Lib.hid hX.lt
      have HB := Lib.hid hB
      have HJ := Lib.hid (show (Lib.join (ss.map (·.data.toList)) sep.data.toList).length ≤ 140737488355328 by rw [hs1, ← joinL_eq]; have := HLN.out; omega)
      have HJE := Lib.hid (show (⟨(Lib.join (ss.map (·.data.toList)) sep.data.toList).toArray⟩ : ByteArray) = ⟨(joinL sep.data.toList (xs.map (tlCmd))).toArray⟩ by rw [hs1, ← joinL_eq])
      have HSN := Lib.hid hsn
      clear hX hB hs1 hs2 hkn hsn
      go_wp2_with fail
      rw [HSN.out]
      refine (Tryz.strings_Join w.heap.size 0 ss.length ss sep wr HCL.out HXl.out (by rw [← HSN.out]; omega) (Nat.le_refl _) HJ.out).mono ?_
      rintro e w4 ⟨rfl, hb4⟩
      rw [HJE.out]
      go_wp2
      go_ret
      exact ⟨rfl, HB.out.trans (hb4.mono HB.out.size)⟩
def MOk (m : ModO) : Prop := m.nm.length ≤ 1000000 ∧ (∀ v ∈ m.vars, VOk v) ∧ (∀ c ∈ m.cmds, COk c) ∧ (tlMod m).length ≤ 1000000 ∧ m.vars.length ≤ 1000000 ∧ m.cmds.length ≤ 1000000
set_option maxHeartbeats 4000000 in
set_option maxRecDepth 100000 in
theorem tmodule_any : ToldC 39 MH MOk tlMod := by
  intro d w b c hok hp hT
  obtain ⟨A, cap, B, cap', rfl, hr1, hr2⟩ := hp
  have hlen := hok.2.2.2.1
  have HE := Lib.hid (show tlMod d = wModule ++ 32 :: (d.nm ++ 10 :: ((d.vars.map tlVar).flatten ++ ((d.cmds.map tlCmd).flatten ++ (wEnd ++ [10])))) from rfl)
  rw [HE.out] at hlen
  simp only [List.length_append, List.length_cons, List.length_nil] at hlen
  have HS1 := Lib.hid (fun (W : World) (hW : Below w.heap.size w W) => tavar_any tvar_any W (hr1.keep (Kt.below (E := E0) hW) id (fun _ _ h => h.keep (Kt.below (E := E0) hW) id)) hok.2.1 (tabs_on hT hW) (by have := hok.2.2.2.2.1; omega) ⟨#[]⟩ (by show (joinL [] _).length ≤ _; rw [joinL_nil]; omega))
  have HS2 := Lib.hid (fun (W : World) (hW : Below w.heap.size w W) => tacom_any tcom_any W (hr2.keep (Kt.below (E := E0) hW) id (fun _ _ h => h.keep (Kt.below (E := E0) hW) id id id)) hok.2.2.1 (tabs_on hT hW) (by have := hok.2.2.2.2.2; omega) ⟨#[]⟩ (by show (joinL [] _).length ≤ _; rw [joinL_nil]; omega))
  obtain ⟨t, ht, hts⟩ := str_ofM (joinL [] (d.vars.map tlVar)) 1000000 (by rw [joinL_nil]; omega)
  obtain ⟨u, hu, hus⟩ := str_ofM (joinL [] (d.cmds.map tlCmd)) 1000000 (by rw [joinL_nil]; omega)
  have HT := Lib.hid ht
  have HU := Lib.hid hu
  have hns : (⟨d.nm.toArray⟩ : ByteArray).size ≤ 1000000 := by rw [sz_toArray]; exact hok.1
  have HNM := Lib.hid (show (⟨d.nm.toArray⟩ : ByteArray).data.toList = d.nm from rfl)
  change Calls Tryz.prog 39 #[.agg #[.string ⟨d.nm.toArray⟩, .slice A d.vars.length cap, .slice B d.cmds.length cap', .int .i64 ((d.pos : Nat) : Int)]] w _
  generalize ((d.pos : Nat) : Int) = z at *
  generalize (⟨d.nm.toArray⟩ : ByteArray) = nm at *
  generalize d.vars.length = n at *
  generalize d.cmds.length = m at *
  have n1 : ¬ 9223372036854775807 < 7 + nm.size := by omega
  have n2 : ¬ 9223372036854775807 < 7 + nm.size + 1 + t.size := by omega
  have n3 : ¬ 9223372036854775807 < 7 + nm.size + 1 + t.size + u.size := by omega
  have n4 : ¬ 9223372036854775807 < 7 + nm.size + 1 + t.size + u.size + 10 := by omega
  clear hok hr1 hr2 hT ht hu hlen
  have LK := Lib.hid (BXm.new w 51 [.string nm, .slice A n cap, .slice B m cap', .int .i64 z])
  go_enter Tryz.func39, Tryz.ntmps39
  go_wp2_with fail
  have lk : BXm w (w.alloc (.cells #[.string nm, .slice A n cap, .slice B m cap', .int .i64 z] 51)) 51 [.string nm, .slice A n cap, .slice B m cap', .int .i64 z] := LK.out
  clear LK
  generalize w.alloc (.cells #[.string nm, .slice A n cap, .slice B m cap', .int .i64 z] 51) = W at lk ⊢
  replace lk := lk.drew
  go_region_held3 (fun w' => w'.cell? ⟨w.heap.size, 0, none⟩ = some (.string nm) ∧ w'.cell? ⟨w.heap.size, 1, none⟩ = some (.slice A n cap) ∧ w'.cell? ⟨w.heap.size, 2, none⟩ = some (.slice B m cap')) (exact ⟨lk.bx.cell 0, lk.bx.cell 1, lk.bx.cell 2⟩) (first
    | (go_at_call 33; (with_reducible refine (lk.line (by simp only [ByteArray.size_append]; have e1 : (⟨#[109, 111, 100, 117, 108, 101, 32]⟩ : ByteArray).size = 7 := rfl; omega)).mono ?_); rintro e wA ⟨rfl, lk2⟩; replace lk := lk2; clear lk2)
    | (go_at_call 33; (with_reducible refine (lk.line (s := ⟨#[101, 110, 100, 109, 111, 100, 117, 108, 101]⟩) (by decide)).mono ?_); rintro e wA ⟨rfl, lk2⟩; replace lk := lk2; clear lk2)
    | (go_at_call 60; (with_reducible refine (lk.callT HS1.out HT.out).mono ?_); rintro e wA ⟨rfl, lk2⟩; replace lk := lk2; clear lk2)
    | (go_at_call 62; (with_reducible refine (lk.callT HS2.out HU.out).mono ?_); rintro e wA ⟨rfl, lk2⟩; replace lk := lk2; clear lk2))
  all_goals go_wp2
  all_goals go_ret
  all_goals exact ⟨ret_strM (by rw [HE.out]; simp [HT.out, HU.out, HNM.out, joinL_nil, wModule, wEnd]), lk.bl⟩
set_option maxHeartbeats 4000000 in
set_option maxRecDepth 100000 in
theorem tamod_any (hTC : ToldC 39 MH MOk (tlMod)) {xs : List ModO} {A : Option Addr} {cap b : Nat} (w : World) (h : Row w b 51 4 (MH w b) xs (.slice A xs.length cap)) (hok : ∀ x ∈ xs, MOk x) (hTab : Tabs w) (hn : xs.length ≤ 2000000) (sep : ByteArray) (hl : (joinL sep.data.toList (xs.map (tlMod))).length ≤ 100000000) :
    Calls Tryz.prog 38 #[.slice A xs.length cap, .string sep, .func (.func 39) #[] #[]] w (TlP (joinL sep.data.toList (xs.map (tlMod))) w) := by
  obtain ⟨i0, hi0, hz⟩ := Option.map_eq_some_iff.1 infoStr
  simp only [Prod.mk.injEq] at hz
  obtain ⟨hz0, hz1, hz2⟩ := hz
  have HI := Lib.hid hi0
  have HZ0 := Lib.hid hz0
  have HZ1 := Lib.hid hz1
  have HZ2 := Lib.hid hz2
  obtain ⟨n, hnn⟩ : ∃ n, n = xs.length := ⟨_, rfl⟩
  have HN := Lib.hid hnn
  rw [← hnn] at hn h ⊢
  have HR := Lib.hid h
  have HOK := Lib.hid hok
  have HTB := Lib.hid hTab
  have HLN := Lib.hid hl
  have HTC := Lib.hid hTC
  clear h hnn hi0 hz0 hz1 hz2 hok hTab hl hTC
  go_enter Tryz.func38, Tryz.ntmps38
  go_wp2_with (at_make; refine wpList_make_full _ rfl _ _ 135 rfl w.heap.size 9 i0 (.string ⟨#[]⟩) 1 Tryz.underlying135 HI.out HZ0.out HZ1.out .i64 .i64 (n : Int) (n : Int) n rfl rfl rfl rfl (by rw [HZ2.out]; omega) (by unfold maxLen; omega) (Nat.le_refl _) ?_)
  intro w1 ho1 hg1
  rw [made_empty] at ho1
  have HB1 := Lib.hid ((Below.refl w.heap.size w).grown hg1 (Nat.le_refl _) (fun k hk => by cases hk))
  have HX1 := Lib.hid (owns_full ho1)
  clear ho1 hg1
  go_wp2
  go_loopw [15] (fun i wr => TaRel (tlMod) xs n w i wr) (fun i _ => n - (intOf i).toNat)
  case atStart => exact ⟨0, rfl, Nat.zero_le _, by rw [toldA_zero]; exact HX1.out, HB1.out⟩
  case round =>
    obtain ⟨k, rfl, hk, hX, hB⟩ := hrel
    by_cases hlt : k < n
    · have c4 : decide ((k : Int) < (n : Int)) = true := by simp; omega
      have c5 : decide (k < n) = true := by simpa using hlt
      have kk : k < xs.length := by rw [← HN.out]; exact hlt
      have hRow := HR.out.keep (Kt.below (E := E0) hB) id (fun _ _ h => (fun (hk : Kt b E0 w wr) => h.keep hk id id id id id) (Kt.below (E := E0) hB))
      have hTb := tabs_on HTB.out hB
      obtain ⟨g, c, hA, hg, hp, hcell⟩ := hRow.get (fun _ _ h => h.len) k kk
      subst hA
      have HB := Lib.hid hB
      have HX := Lib.hid hX
      have HTb := Lib.hid hTb
      have hts : k < (xs.map (tlMod)).length := by rw [List.length_map]; exact kk
      have HSET := Lib.hid (toldA_set (ts := xs.map (tlMod)) hlt (by rw [List.length_map]; exact HN.out))
      have HAT := Lib.hid (toldA_at (ts := xs.map (tlMod)) hlt (by rw [List.length_map]; exact HN.out))
      obtain ⟨d, hdel, hdok, hdp⟩ : ∃ d, (xs.map (tlMod))[k]'hts = (tlMod) d ∧ MOk d ∧ MH wr b d c := ⟨xs[k], List.getElem_map _, HOK.out _ (List.getElem_mem kk), hp⟩
      have HEL := Lib.hid hdel
      have HOKK := Lib.hid hdok
      have HP := Lib.hid hdp
      clear hRow hTb hB hX hp hdel hdok
      obtain ⟨A1, cap1, A2, cap2, rfl, -⟩ := hdp
      have e0 := hcell 0 _ rfl
      have e1 := hcell 1 _ rfl
      have e2 := hcell 2 _ rfl
      have e3 := hcell 3 _ rfl
      simp only [Nat.add_zero] at e0
      have HC := Lib.hid (fun (W : World) (hW : Below wr.heap.size wr W) => HTC.out d W b _ HOKK.out ((fun h (hk : Kt b E0 wr W) => h.keep hk id id id id id) HP.out (Kt.below (E := E0) hW)) (tabs_on HTb.out hW))
      clear hcell
      go_wp2_with fail
      refine (HC.out _ ((Below.refl _ _).alloc (Nat.le_refl _) _)).mono ?_
      rintro e w3 ⟨rfl, hb3⟩
      have HB3 := Lib.hid (((Below.refl wr.heap.size wr).alloc (Nat.le_refl _) _).trans (hb3.mono (by simp)))
      have hX3 := HX.out.below HB3.out
      have hl3 := hX3.lt
      have hfz := hX3.frozen k
      have hcl : w3.cell? ⟨w.heap.size, k, none⟩ = some (.string ⟨#[]⟩) := (hX3.cell k).trans HAT.out
      have HX3 := Lib.hid hX3
      clear hb3 hX3
      obtain ⟨tb, htb⟩ : ∃ t : ByteArray, strV ((tlMod) d) = .string t := ⟨_, rfl⟩
      rw [htb]
      have HST := Lib.hid (show (toldA (xs.map (tlMod)) k n).set k (.string tb) = toldA (xs.map (tlMod)) (k + 1) n by rw [← htb, ← HEL.out]; exact HSET.out)
      clear htb
      go_wp2
      have HSX := Lib.hid (HX3.out.set k (.string tb))
      go_roundw
      case rel => exact ⟨k + 1, by go_num, by omega, by rw [← HST.out]; exact HSX.out, (HB.out.trans (HB3.out.mono HB.out.size)).setCell (p := ⟨w.heap.size, k, none⟩) (Nat.le_refl _) _⟩
      case measure => simp [intOf]; omega
    · have c4 : decide ((k : Int) < (n : Int)) = false := by simp; omega
      have c5 : decide (k < n) = false := by simpa using hlt
      have hkn : k = n := by omega
      rw [hkn] at hX
      obtain ⟨ss, hs1, hs2⟩ := strs_of (xs.map (tlMod))
      have hsn : n = ss.length := by
        have h1 := congrArg List.length hs1
        rw [List.length_map, List.length_map] at h1
        have := HN.out
        omega
      have HCL := Lib.hid (told_cells (by rw [List.length_map]; exact HN.out) hX hs2)
      have HXl := Lib.hid hX.lt
      have HB := Lib.hid hB
      have HJ := Lib.hid (show (Lib.join (ss.map (·.data.toList)) sep.data.toList).length ≤ 140737488355328 by rw [hs1, ← joinL_eq]; have := HLN.out; omega)
      have HJE := Lib.hid (show (⟨(Lib.join (ss.map (·.data.toList)) sep.data.toList).toArray⟩ : ByteArray) = ⟨(joinL sep.data.toList (xs.map (tlMod))).toArray⟩ by rw [hs1, ← joinL_eq])
      have HSN := Lib.hid hsn
      clear hX hB hs1 hs2 hkn hsn
      go_wp2_with fail
      rw [HSN.out]
      refine (Tryz.strings_Join w.heap.size 0 ss.length ss sep wr HCL.out HXl.out (by rw [← HSN.out]; omega) (Nat.le_refl _) HJ.out).mono ?_
      rintro e w4 ⟨rfl, hb4⟩
      rw [HJE.out]
      go_wp2
      go_ret
      exact ⟨rfl, HB.out.trans (hb4.mono HB.out.size)⟩
structure MdOk (m : MdlO) : Prop where
  cs : ∀ d ∈ m.consts, DOk d
  fs : ∀ d ∈ m.formulas, DOk d
  ls : ∀ d ∈ m.labels, DOk d
  ms : ∀ d ∈ m.mods, MOk d
  ln : (tlM m).length ≤ 1000000
  l1 : m.consts.length ≤ 1000000
  l2 : m.formulas.length ≤ 1000000
  l3 : m.labels.length ≤ 1000000
  l4 : m.mods.length ≤ 1000000
set_option maxHeartbeats 8000000 in
set_option maxRecDepth 100000 in
theorem mprint_any {d : MdlO} (hok : MdOk d) {b : Nat} {v : MdV} (w : World) (h : MdR w b d v) (hT : Tabs w) : Calls Tryz.prog 13 #[.agg #[v.v1 d, v.v2 d, v.v3 d, v.v4 d]] w (TlP (tlM d) w) := by
  have hlen := hok.ln
  have HE := Lib.hid (show tlM d = wMdp ++ 10 :: ((d.consts.map (tlDef wConst)).flatten ++ ((d.formulas.map (tlDef wFormula)).flatten ++ ((d.labels.map tlLab).flatten ++ (d.mods.map tlMod).flatten))) from rfl)
  rw [HE.out] at hlen
  simp only [List.length_append, List.length_cons] at hlen
  have HS1 := Lib.hid (fun (W : World) (hW : Below w.heap.size w W) => taconst_all tconst_any W (h.r1.keep (Kt.below (E := E0) hW) id (fun _ _ h => h.keep (Kt.below (E := E0) hW) id)) hok.cs (tabs_on hT hW) (by have := hok.l1; omega) ⟨#[]⟩ (by show (joinL [] _).length ≤ _; rw [joinL_nil]; omega))
  have HS2 := Lib.hid (fun (W : World) (hW : Below w.heap.size w W) => taformula_all tformula_any W (h.r2.keep (Kt.below (E := E0) hW) id (fun _ _ h => h.keep (Kt.below (E := E0) hW) id)) hok.fs (tabs_on hT hW) (by have := hok.l2; omega) ⟨#[]⟩ (by show (joinL [] _).length ≤ _; rw [joinL_nil]; omega))
  have HS3 := Lib.hid (fun (W : World) (hW : Below w.heap.size w W) => talabel_all tlabel_any W (h.r3.keep (Kt.below (E := E0) hW) id (fun _ _ h => h.keep (Kt.below (E := E0) hW) id)) hok.ls (tabs_on hT hW) (by have := hok.l3; omega) ⟨#[]⟩ (by show (joinL [] _).length ≤ _; rw [joinL_nil]; omega))
  have HS4 := Lib.hid (fun (W : World) (hW : Below w.heap.size w W) => tamod_any tmodule_any W (h.r4.keep (Kt.below (E := E0) hW) id (fun _ _ h => h.keep (Kt.below (E := E0) hW) id id id id id)) hok.ms (tabs_on hT hW) (by have := hok.l4; omega) ⟨#[]⟩ (by show (joinL [] _).length ≤ _; rw [joinL_nil]; omega))
  obtain ⟨t1, ht1, hs1⟩ := str_ofM (joinL [] (d.consts.map (tlDef wConst))) 1000000 (by rw [joinL_nil]; omega)
  obtain ⟨t2, ht2, hs2⟩ := str_ofM (joinL [] (d.formulas.map (tlDef wFormula))) 1000000 (by rw [joinL_nil]; omega)
  obtain ⟨t3, ht3, hs3⟩ := str_ofM (joinL [] (d.labels.map tlLab)) 1000000 (by rw [joinL_nil]; omega)
  obtain ⟨t4, ht4, hs4⟩ := str_ofM (joinL [] (d.mods.map tlMod)) 1000000 (by rw [joinL_nil]; omega)
  have HT1 := Lib.hid ht1
  have HT2 := Lib.hid ht2
  have HT3 := Lib.hid ht3
  have HT4 := Lib.hid ht4
  unfold MdV.v1 MdV.v2 MdV.v3 MdV.v4
  generalize d.consts.length = k1 at *
  generalize d.formulas.length = k2 at *
  generalize d.labels.length = k3 at *
  generalize d.mods.length = k4 at *
  have n1 : ¬ 9223372036854775807 < 4 + t1.size := by omega
  have n2 : ¬ 9223372036854775807 < 4 + t1.size + t2.size := by omega
  have n3 : ¬ 9223372036854775807 < 4 + t1.size + t2.size + t3.size := by omega
  have n4 : ¬ 9223372036854775807 < 4 + t1.size + t2.size + t3.size + t4.size := by omega
  clear hok h hT ht1 ht2 ht3 ht4 hlen
  have LK := Lib.hid (BXm.new w 26 [.slice v.A1 k1 v.c1, .slice v.A2 k2 v.c2, .slice v.A3 k3 v.c3, .slice v.A4 k4 v.c4])
  go_enter Tryz.func13, Tryz.ntmps13
  go_wp2_with fail
  have lk : BXm w (w.alloc (.cells #[.slice v.A1 k1 v.c1, .slice v.A2 k2 v.c2, .slice v.A3 k3 v.c3, .slice v.A4 k4 v.c4] 26)) 26 [.slice v.A1 k1 v.c1, .slice v.A2 k2 v.c2, .slice v.A3 k3 v.c3, .slice v.A4 k4 v.c4] := LK.out
  clear LK
  generalize w.alloc (.cells #[.slice v.A1 k1 v.c1, .slice v.A2 k2 v.c2, .slice v.A3 k3 v.c3, .slice v.A4 k4 v.c4] 26) = W at lk ⊢
  replace lk := lk.drew
  go_region_held3 (fun w' => w'.cell? ⟨w.heap.size, 0, none⟩ = some (.slice v.A1 k1 v.c1) ∧ w'.cell? ⟨w.heap.size, 1, none⟩ = some (.slice v.A2 k2 v.c2) ∧ w'.cell? ⟨w.heap.size, 2, none⟩ = some (.slice v.A3 k3 v.c3) ∧ w'.cell? ⟨w.heap.size, 3, none⟩ = some (.slice v.A4 k4 v.c4)) (exact ⟨lk.bx.cell 0, lk.bx.cell 1, lk.bx.cell 2, lk.bx.cell 3⟩) (first
    | (go_at_call 33; (with_reducible refine (lk.line (s := ⟨#[109, 100, 112]⟩) (by decide)).mono ?_); rintro e wA ⟨rfl, lk2⟩; replace lk := lk2; clear lk2)
    | (go_at_call 34; (with_reducible refine (lk.callT HS1.out HT1.out).mono ?_); rintro e wA ⟨rfl, lk2⟩; replace lk := lk2; clear lk2)
    | (go_at_call 34; (with_reducible refine (lk.callT HS2.out HT2.out).mono ?_); rintro e wA ⟨rfl, lk2⟩; replace lk := lk2; clear lk2)
    | (go_at_call 34; (with_reducible refine (lk.callT HS3.out HT3.out).mono ?_); rintro e wA ⟨rfl, lk2⟩; replace lk := lk2; clear lk2)
    | (go_at_call 38; (with_reducible refine (lk.callT HS4.out HT4.out).mono ?_); rintro e wA ⟨rfl, lk2⟩; replace lk := lk2; clear lk2))
  all_goals go_wp2
  all_goals go_ret
  all_goals exact ⟨ret_strM (by rw [HE.out]; simp [HT1.out, HT2.out, HT3.out, HT4.out, joinL_nil, wMdp]), lk.bl⟩
end Go.Proofs.YtodijgndbjfbgaaGreatDoor
