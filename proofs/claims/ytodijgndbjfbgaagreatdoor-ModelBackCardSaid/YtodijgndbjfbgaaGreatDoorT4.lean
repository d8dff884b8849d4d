/-
  A model's lists told: tellAll, walked, at each kind of part.
-/
import Derived.Test.YtodijgndbjfbgaaGreatDoorT3
namespace Go.Proofs.YtodijgndbjfbgaaGreatDoor
open Go.RowKit

set_option maxHeartbeats 4000000 in
set_option maxRecDepth 100000 in
theorem taconst_all (hTC : ToldC 35 DH DOk (tlDef wConst)) {xs : List DefO} {A : Option Addr} {cap b : Nat} (w : World) (h : Row w b 118 7 (DH w b) xs (.slice A xs.length cap)) (hok : ∀ x ∈ xs, DOk x) (hTab : Tabs w) (hn : xs.length ≤ 2000000) (sep : ByteArray) (hl : (joinL sep.data.toList (xs.map (tlDef wConst))).length ≤ 100000000) :
    Calls Tryz.prog 34 #[.slice A xs.length cap, .string sep, .func (.func 35) #[] #[]] w (TlP (joinL sep.data.toList (xs.map (tlDef wConst))) w) := by
  obtain ⟨i0, hi0, hz⟩ := Option.map_eq_some_iff.1 infoStr
  simp only [Prod.mk.injEq] at hz
  obtain ⟨hz0, hz1, hz2⟩ := hz
  have HI := Lib.hid hi0
  have HZ0 := Lib.hid hz0
  have HZ1 := Lib.hid hz1
  have HZ2 := Lib.hid hz2
  obtain ⟨n, hnn⟩ : ∃ n, n = xs.length := ⟨_, rfl⟩
  have HN := Lib.hid hnn
  rw [← hnn] at hn h ⊢
  have HR := Lib.hid h
  have HOK := Lib.hid hok
  have HTB := Lib.hid hTab
  have HLN := Lib.hid hl
  have HTC := Lib.hid hTC
  clear h hnn hi0 hz0 hz1 hz2 hok hTab hl hTC
  go_enter Tryz.func34, Tryz.ntmps34
  go_wp2_with (at_make; refine wpList_make_full _ rfl _ _ 135 rfl w.heap.size 9 i0 (.string ⟨#[]⟩) 1 Tryz.underlying135 HI.out HZ0.out HZ1.out .i64 .i64 (n : Int) (n : Int) n rfl rfl rfl rfl (by rw [HZ2.out]; omega) (by unfold maxLen; omega) (Nat.le_refl _) ?_)
  intro w1 ho1 hg1
  rw [made_empty] at ho1
  have HB1 := Lib.hid ((Below.refl w.heap.size w).grown hg1 (Nat.le_refl _) (fun k hk => by cases hk))
  have HX1 := Lib.hid (owns_full ho1)
  clear ho1 hg1
  go_wp2
  go_loopw [15] (fun i wr => TaRel (tlDef wConst) xs n w i wr) (fun i _ => n - (intOf i).toNat)
  case atStart => exact ⟨0, rfl, Nat.zero_le _, by rw [toldA_zero]; exact HX1.out, HB1.out⟩
  case round =>
    obtain ⟨k, rfl, hk, hX, hB⟩ := hrel
    by_cases hlt : k < n
    · have c4 : decide ((k : Int) < (n : Int)) = true := by simp; omega
      have c5 : decide (k < n) = true := by simpa using hlt
      have kk : k < xs.length := by rw [← HN.out]; exact hlt
      have hRow := HR.out.keep (Kt.below (E := E0) hB) id (fun _ _ h => (fun (hk : Kt b E0 w wr) => h.keep hk id) (Kt.below (E := E0) hB))
      have hTb := tabs_on HTB.out hB
      obtain ⟨g, c, hA, hg, hp, hcell⟩ := hRow.get (fun _ _ h => h.len) k kk
      subst hA
      have HB := Lib.hid hB
      have HX := Lib.hid hX
      have HTb := Lib.hid hTb
      have hts : k < (xs.map (tlDef wConst)).length := by rw [List.length_map]; exact kk
      have HSET := Lib.hid (toldA_set (ts := xs.map (tlDef wConst)) hlt (by rw [List.length_map]; exact HN.out))
      have HAT := Lib.hid (toldA_at (ts := xs.map (tlDef wConst)) hlt (by rw [List.length_map]; exact HN.out))
      obtain ⟨d, hdel, hdok, hdp⟩ : ∃ d, (xs.map (tlDef wConst))[k]'hts = (tlDef wConst) d ∧ DOk d ∧ DH wr b d c := ⟨xs[k], List.getElem_map _, HOK.out _ (List.getElem_mem kk), hp⟩
      have HEL := Lib.hid hdel
      have HOKK := Lib.hid hdok
      have HP := Lib.hid hdp
      clear hRow hTb hB hX hp hdel hdok
      obtain ⟨v, rfl, -⟩ := hdp
      have e0 := hcell 0 _ rfl
      have e1 := hcell 1 _ rfl
      have e2 := hcell 2 _ rfl
      have e3 := hcell 3 _ rfl
      have e4 := hcell 4 _ rfl
      have e5 := hcell 5 _ rfl
      have e6 := hcell 6 _ rfl
      simp only [Nat.add_zero] at e0
      have HC := Lib.hid (fun (W : World) (hW : Below wr.heap.size wr W) => HTC.out d W b _ HOKK.out ((fun h (hk : Kt b E0 wr W) => h.keep hk id) HP.out (Kt.below (E := E0) hW)) (tabs_on HTb.out hW))
      clear hcell
      go_wp2_with fail
      refine (HC.out _ ((Below.refl _ _).alloc (Nat.le_refl _) _)).mono ?_
      rintro e w3 ⟨rfl, hb3⟩
      have HB3 := Lib.hid (((Below.refl wr.heap.size wr).alloc (Nat.le_refl _) _).trans (hb3.mono (by simp)))
      have hX3 := HX.out.below HB3.out
      have hl3 := hX3.lt
      have hfz := hX3.frozen k
      have hcl : w3.cell? ⟨w.heap.size, k, none⟩ = some (.string ⟨#[]⟩) := (hX3.cell k).trans HAT.out
      have HX3 := Lib.hid hX3
      clear hb3 hX3
      obtain ⟨tb, htb⟩ : ∃ t : ByteArray, strV ((tlDef wConst) d) = .string t := ⟨_, rfl⟩
      rw [htb]
      have HST := Lib.hid (show (toldA (xs.map (tlDef wConst)) k n).set k (.string tb) = toldA (xs.map (tlDef wConst)) (k + 1) n by rw [← htb, ← HEL.out]; exact HSET.out)
      clear htb
      go_wp2
      have HSX := Lib.hid (HX3.out.set k (.string tb))
      go_roundw
      case rel => exact ⟨k + 1, by go_num, by omega, by rw [← HST.out]; exact HSX.out, (HB.out.trans (HB3.out.mono HB.out.size)).setCell (p := ⟨w.heap.size, k, none⟩) (Nat.le_refl _) _⟩
      case measure => simp [intOf]; omega
    · have c4 : decide ((k : Int) < (n : Int)) = false := by simp; omega
      have c5 : decide (k < n) = false := by simpa using hlt
      have hkn : k = n := by omega
      rw [hkn] at hX
      obtain ⟨ss, hs1, hs2⟩ := strs_of (xs.map (tlDef wConst))
      have hsn : n = ss.length := by
        have h1 := congrArg List.length hs1
        rw [List.length_map, List.length_map] at h1
        have := HN.out
        omega
      have HCL := Lib.hid (told_cells (by rw [List.length_map]; exact HN.out) hX hs2)
      have HXl := Lib.hid hX.lt
      have HB := Lib.hid hB
      have HJ := Lib.hid (show (Lib.join (ss.map (·.data.toList)) sep.data.toList).length ≤ 140737488355328 by rw [hs1, ← joinL_eq]; have := HLN.out; omega)
      have HJE := Lib.hid (show (⟨(Lib.join (ss.map (·.data.toList)) sep.data.toList).toArray⟩ : ByteArray) = ⟨(joinL sep.data.toList (xs.map (tlDef wConst))).toArray⟩ by rw [hs1, ← joinL_eq])
      have HSN := Lib.hid hsn
      clear hX hB hs1 hs2 hkn hsn
      go_wp2_with fail
      rw [HSN.out]
      refine (Tryz.strings_Join w.heap.size 0 ss.length ss sep wr HCL.out HXl.out (by rw [← HSN.out]; omega) (Nat.le_refl _) HJ.out).mono ?_
      rintro e w4 ⟨rfl, hb4⟩
      rw [HJE.out]
      go_wp2
      go_ret
      exact ⟨rfl, HB.out.trans (hb4.mono HB.out.size)⟩
set_option maxHeartbeats 4000000 in
set_option maxRecDepth 100000 in
theorem taformula_all (hTC : ToldC 36 DH DOk (tlDef wFormula)) {xs : List DefO} {A : Option Addr} {cap b : Nat} (w : World) (h : Row w b 118 7 (DH w b) xs (.slice A xs.length cap)) (hok : ∀ x ∈ xs, DOk x) (hTab : Tabs w) (hn : xs.length ≤ 2000000) (sep : ByteArray) (hl : (joinL sep.data.toList (xs.map (tlDef wFormula))).length ≤ 100000000) :
    Calls Tryz.prog 34 #[.slice A xs.length cap, .string sep, .func (.func 36) #[] #[]] w (TlP (joinL sep.data.toList (xs.map (tlDef wFormula))) w) := by
  obtain ⟨i0, hi0, hz⟩ := Option.map_eq_some_iff.1 infoStr
  simp only [Prod.mk.injEq] at hz
  obtain ⟨hz0, hz1, hz2⟩ := hz
  have HI := Lib.hid hi0
  have HZ0 := Lib.hid hz0
  have HZ1 := Lib.hid hz1
  have HZ2 := Lib.hid hz2
  obtain ⟨n, hnn⟩ : ∃ n, n = xs.length := ⟨_, rfl⟩
  have HN := Lib.hid hnn
  rw [← hnn] at hn h ⊢
  have HR := Lib.hid h
  have HOK := Lib.hid hok
  have HTB := Lib.hid hTab
  have HLN := Lib.hid hl
  have HTC := Lib.hid hTC
  clear h hnn hi0 hz0 hz1 hz2 hok hTab hl hTC
  go_enter Tryz.func34, Tryz.ntmps34
  go_wp2_with (at_make; refine wpList_make_full _ rfl _ _ 135 rfl w.heap.size 9 i0 (.string ⟨#[]⟩) 1 Tryz.underlying135 HI.out HZ0.out HZ1.out .i64 .i64 (n : Int) (n : Int) n rfl rfl rfl rfl (by rw [HZ2.out]; omega) (by unfold maxLen; omega) (Nat.le_refl _) ?_)
  intro w1 ho1 hg1
  rw [made_empty] at ho1
  have HB1 := Lib.hid ((Below.refl w.heap.size w).grown hg1 (Nat.le_refl _) (fun k hk => by cases hk))
  have HX1 := Lib.hid (owns_full ho1)
  clear ho1 hg1
  go_wp2
  go_loopw [15] (fun i wr => TaRel (tlDef wFormula) xs n w i wr) (fun i _ => n - (intOf i).toNat)
  case atStart => exact ⟨0, rfl, Nat.zero_le _, by rw [toldA_zero]; exact HX1.out, HB1.out⟩
  case round =>
    obtain ⟨k, rfl, hk, hX, hB⟩ := hrel
    by_cases hlt : k < n
    · have c4 : decide ((k : Int) < (n : Int)) = true := by simp; omega
      have c5 : decide (k < n) = true := by simpa using hlt
      have kk : k < xs.length := by rw [← HN.out]; exact hlt
      have hRow := HR.out.keep (Kt.below (E := E0) hB) id (fun _ _ h => (fun (hk : Kt b E0 w wr) => h.keep hk id) (Kt.below (E := E0) hB))
      have hTb := tabs_on HTB.out hB
      obtain ⟨g, c, hA, hg, hp, hcell⟩ := hRow.get (fun _ _ h => h.len) k kk
      subst hA
      have HB := Lib.hid hB
      have HX := Lib.hid hX
      have HTb := Lib.hid hTb
      have hts : k < (xs.map (tlDef wFormula)).length := by rw [List.length_map]; exact kk
      have HSET := Lib.hid (toldA_set (ts := xs.map (tlDef wFormula)) hlt (by rw [List.length_map]; exact HN.out))
      have HAT := Lib.hid (toldA_at (ts := xs.map (tlDef wFormula)) hlt (by rw [List.length_map]; exact HN.out))
      obtain ⟨d, hdel, hdok, hdp⟩ : ∃ d, (xs.map (tlDef wFormula))[k]'hts = (tlDef wFormula) d ∧ DOk d ∧ DH wr b d c := ⟨xs[k], List.getElem_map _, HOK.out _ (List.getElem_mem kk), hp⟩
      have HEL := Lib.hid hdel
      have HOKK := Lib.hid hdok
      have HP := Lib.hid hdp
      clear hRow hTb hB hX hp hdel hdok
      obtain ⟨v, rfl, -⟩ := hdp
      have e0 := hcell 0 _ rfl
      have e1 := hcell 1 _ rfl
      have e2 := hcell 2 _ rfl
      have e3 := hcell 3 _ rfl
      have e4 := hcell 4 _ rfl
      have e5 := hcell 5 _ rfl
      have e6 := hcell 6 _ rfl
      simp only [Nat.add_zero] at e0
      have HC := Lib.hid (fun (W : World) (hW : Below wr.heap.size wr W) => HTC.out d W b _ HOKK.out ((fun h (hk : Kt b E0 wr W) => h.keep hk id) HP.out (Kt.below (E := E0) hW)) (tabs_on HTb.out hW))
      clear hcell
      go_wp2_with fail
      refine (HC.out _ ((Below.refl _ _).alloc (Nat.le_refl _) _)).mono ?_
      rintro e w3 ⟨rfl, hb3⟩
      have HB3 := Lib.hid (((Below.refl wr.heap.size wr).alloc (Nat.le_refl _) _).trans (hb3.mono (by simp)))
      have hX3 := HX.out.below HB3.out
      have hl3 := hX3.lt
      have hfz := hX3.frozen k
      have hcl : w3.cell? ⟨w.heap.size, k, none⟩ = some (.string ⟨#[]⟩) := (hX3.cell k).trans HAT.out
      have HX3 := Lib.hid hX3
      clear hb3 hX3
      obtain ⟨tb, htb⟩ : ∃ t : ByteArray, strV ((tlDef wFormula) d) = .string t := ⟨_, rfl⟩
      rw [htb]
      have HST := Lib.hid (show (toldA (xs.map (tlDef wFormula)) k n).set k (.string tb) = toldA (xs.map (tlDef wFormula)) (k + 1) n by rw [← htb, ← HEL.out]; exact HSET.out)
      clear htb
      go_wp2
      have HSX := Lib.hid (HX3.out.set k (.string tb))
      go_roundw
      case rel => exact ⟨k + 1, by go_num, by omega, by rw [← HST.out]; exact HSX.out, (HB.out.trans (HB3.out.mono HB.out.size)).setCell (p := ⟨w.heap.size, k, none⟩) (Nat.le_refl _) _⟩
      case measure => simp [intOf]; omega
    · have c4 : decide ((k : Int) < (n : Int)) = false := by simp; omega
      have c5 : decide (k < n) = false := by simpa using hlt
      have hkn : k = n := by omega
      rw [hkn] at hX
      obtain ⟨ss, hs1, hs2⟩ := strs_of (xs.map (tlDef wFormula))
      have hsn : n = ss.length := by
        have h1 := congrArg List.length hs1
        rw [List.length_map, List.length_map] at h1
        have := HN.out
        omega
      have HCL := Lib.hid (told_cells (by rw [List.length_map]; exact HN.out) hX hs2)
      have HXl := Lib.hid hX.lt
      have HB := Lib.hid hB
      have HJ := Lib.hid (show (Lib.join (ss.map (·.data.toList)) sep.data.toList).length ≤ 140737488355328 by rw [hs1, ← joinL_eq]; have := HLN.out; omega)
      have HJE := Lib.hid (show (⟨(Lib.join (ss.map (·.data.toList)) sep.data.toList).toArray⟩ : ByteArray) = ⟨(joinL sep.data.toList (xs.map (tlDef wFormula))).toArray⟩ by rw [hs1, ← joinL_eq])
      have HSN := Lib.hid hsn
      clear hX hB hs1 hs2 hkn hsn
      go_wp2_with fail
      rw [HSN.out]
      refine (Tryz.strings_Join w.heap.size 0 ss.length ss sep wr HCL.out HXl.out (by rw [← HSN.out]; omega) (Nat.le_refl _) HJ.out).mono ?_
      rintro e w4 ⟨rfl, hb4⟩
      rw [HJE.out]
      go_wp2
      go_ret
      exact ⟨rfl, HB.out.trans (hb4.mono HB.out.size)⟩
set_option maxHeartbeats 4000000 in
set_option maxRecDepth 100000 in
theorem talabel_all (hTC : ToldC 37 DH DOk (tlLab)) {xs : List DefO} {A : Option Addr} {cap b : Nat} (w : World) (h : Row w b 118 7 (DH w b) xs (.slice A xs.length cap)) (hok : ∀ x ∈ xs, DOk x) (hTab : Tabs w) (hn : xs.length ≤ 2000000) (sep : ByteArray) (hl : (joinL sep.data.toList (xs.map (tlLab))).length ≤ 100000000) :
    Calls Tryz.prog 34 #[.slice A xs.length cap, .string sep, .func (.func 37) #[] #[]] w (TlP (joinL sep.data.toList (xs.map (tlLab))) w) := by
  obtain ⟨i0, hi0, hz⟩ := Option.map_eq_some_iff.1 infoStr
  simp only [Prod.mk.injEq] at hz
  obtain ⟨hz0, hz1, hz2⟩ := hz
  have HI := Lib.hid hi0
  have HZ0 := Lib.hid hz0
  have HZ1 := Lib.hid hz1
  have HZ2 := Lib.hid hz2
  obtain ⟨n, hnn⟩ : ∃ n, n = xs.length := ⟨_, rfl⟩
  have HN := Lib.hid hnn
  rw [← hnn] at hn h ⊢
  have HR := Lib.hid h
  have HOK := Lib.hid hok
  have HTB := Lib.hid hTab
  have HLN := Lib.hid hl
  have HTC := Lib.hid hTC
  clear h hnn hi0 hz0 hz1 hz2 hok hTab hl hTC
  go_enter Tryz.func34, Tryz.ntmps34
  go_wp2_with (at_make; refine wpList_make_full _ rfl _ _ 135 rfl w.heap.size 9 i0 (.string ⟨#[]⟩) 1 Tryz.underlying135 HI.out HZ0.out HZ1.out .i64 .i64 (n : Int) (n : Int) n rfl rfl rfl rfl (by rw [HZ2.out]; omega) (by unfold maxLen; omega) (Nat.le_refl _) ?_)
  intro w1 ho1 hg1
  rw [made_empty] at ho1
  have HB1 := Lib.hid ((Below.refl w.heap.size w).grown hg1 (Nat.le_refl _) (fun k hk => by cases hk))
  have HX1 := Lib.hid (owns_full ho1)
  clear ho1 hg1
  go_wp2
  go_loopw [15] (fun i wr => TaRel (tlLab) xs n w i wr) (fun i _ => n - (intOf i).toNat)
  case atStart => exact ⟨0, rfl, Nat.zero_le _, by rw [toldA_zero]; exact HX1.out, HB1.out⟩
  case round =>
    obtain ⟨k, rfl, hk, hX, hB⟩ := hrel
    by_cases hlt : k < n
    · have c4 : decide ((k : Int) < (n : Int)) = true := by simp; omega
      have c5 : decide (k < n) = true := by simpa using hlt
      have kk : k < xs.length := by rw [← HN.out]; exact hlt
      have hRow := HR.out.keep (Kt.below (E := E0) hB) id (fun _ _ h => (fun (hk : Kt b E0 w wr) => h.keep hk id) (Kt.below (E := E0) hB))
      have hTb := tabs_on HTB.out hB
      obtain ⟨g, c, hA, hg, hp, hcell⟩ := hRow.get (fun _ _ h => h.len) k kk
      subst hA
      have HB := Lib.hid hB
      have HX := Lib.hid hX
      have HTb := Lib.hid hTb
      have hts : k < (xs.map (tlLab)).length := by rw [List.length_map]; exact kk
      have HSET := Lib.hid (toldA_set (ts := xs.map (tlLab)) hlt (by rw [List.length_map]; exact HN.out))
      have HAT := Lib.hid (toldA_at (ts := xs.map (tlLab)) hlt (by rw [List.length_map]; exact HN.out))
      obtain ⟨d, hdel, hdok, hdp⟩ : ∃ d, (xs.map (tlLab))[k]'hts = (tlLab) d ∧ DOk d ∧ DH wr b d c := ⟨xs[k], List.getElem_map _, HOK.out _ (List.getElem_mem kk), hp⟩
      have HEL := Lib.hid hdel
      have HOKK := Lib.hid hdok
      have HP := Lib.hid hdp
      clear hRow hTb hB hX hp hdel hdok
      obtain ⟨v, rfl, -⟩ := hdp
      have e0 := hcell 0 _ rfl
      have e1 := hcell 1 _ rfl
      have e2 := hcell 2 _ rfl
      have e3 := hcell 3 _ rfl
      have e4 := hcell 4 _ rfl
      have e5 := hcell 5 _ rfl
      have e6 := hcell 6 _ rfl
      simp only [Nat.add_zero] at e0
      have HC := Lib.hid (fun (W : World) (hW : Below wr.heap.size wr W) => HTC.out d W b _ HOKK.out ((fun h (hk : Kt b E0 wr W) => h.keep hk id) HP.out (Kt.below (E := E0) hW)) (tabs_on HTb.out hW))
      clear hcell
      go_wp2_with fail
      refine (HC.out _ ((Below.refl _ _).alloc (Nat.le_refl _) _)).mono ?_
      rintro e w3 ⟨rfl, hb3⟩
      have HB3 := Lib.hid (((Below.refl wr.heap.size wr).alloc (Nat.le_refl _) _).trans (hb3.mono (by simp)))
      have hX3 := HX.out.below HB3.out
      have hl3 := hX3.lt
      have hfz := hX3.frozen k
      have hcl : w3.cell? ⟨w.heap.size, k, none⟩ = some (.string ⟨#[]⟩) := (hX3.cell k).trans HAT.out
      have HX3 := Lib.hid hX3
      clear hb3 hX3
      obtain ⟨tb, htb⟩ : ∃ t : ByteArray, strV ((tlLab) d) = .string t := ⟨_, rfl⟩
      rw [htb]
      have HST := Lib.hid (show (toldA (xs.map (tlLab)) k n).set k (.string tb) = toldA (xs.map (tlLab)) (k + 1) n by rw [← htb, ← HEL.out]; exact HSET.out)
      clear htb
      go_wp2
      have HSX := Lib.hid (HX3.out.set k (.string tb))
      go_roundw
      case rel => exact ⟨k + 1, by go_num, by omega, by rw [← HST.out]; exact HSX.out, (HB.out.trans (HB3.out.mono HB.out.size)).setCell (p := ⟨w.heap.size, k, none⟩) (Nat.le_refl _) _⟩
      case measure => simp [intOf]; omega
    · have c4 : decide ((k : Int) < (n : Int)) = false := by simp; omega
      have c5 : decide (k < n) = false := by simpa using hlt
      have hkn : k = n := by omega
      rw [hkn] at hX
      obtain ⟨ss, hs1, hs2⟩ := strs_of (xs.map (tlLab))
      have hsn : n = ss.length := by
        have h1 := congrArg List.length hs1
        rw [List.length_map, List.length_map] at h1
        have := HN.out
        omega
      have HCL := Lib.hid (told_cells (by rw [List.length_map]; exact HN.out) hX hs2)
      have HXl := Lib.hid hX.lt
      have HB := Lib.hid hB
      have HJ := Lib.hid (show (Lib.join (ss.map (·.data.toList)) sep.data.toList).length ≤ 140737488355328 by rw [hs1, ← joinL_eq]; have := HLN.out; omega)
      have HJE := Lib.hid (show (⟨(Lib.join (ss.map (·.data.toList)) sep.data.toList).toArray⟩ : ByteArray) = ⟨(joinL sep.data.toList (xs.map (tlLab))).toArray⟩ by rw [hs1, ← joinL_eq])
      have HSN := Lib.hid hsn
      clear hX hB hs1 hs2 hkn hsn
      go_wp2_with fail
      rw [HSN.out]
      refine (Tryz.strings_Join w.heap.size 0 ss.length ss sep wr HCL.out HXl.out (by rw [← HSN.out]; omega) (Nat.le_refl _) HJ.out).mono ?_
      rintro e w4 ⟨rfl, hb4⟩
      rw [HJE.out]
      go_wp2
      go_ret
      exact ⟨rfl, HB.out.trans (hb4.mono HB.out.size)⟩
set_option maxHeartbeats 4000000 in
set_option maxRecDepth 100000 in
theorem taset_any (hTC : ToldC 119 DH DOk (tlSet)) {xs : List DefO} {A : Option Addr} {cap b : Nat} (w : World) (h : Row w b 115 7 (DH w b) xs (.slice A xs.length cap)) (hok : ∀ x ∈ xs, DOk x) (hTab : Tabs w) (hn : xs.length ≤ 2000000) (sep : ByteArray) (hl : (joinL sep.data.toList (xs.map (tlSet))).length ≤ 100000000) :
    Calls Tryz.prog 118 #[.slice A xs.length cap, .string sep, .func (.func 119) #[] #[]] w (TlP (joinL sep.data.toList (xs.map (tlSet))) w) := by
  obtain ⟨i0, hi0, hz⟩ := Option.map_eq_some_iff.1 infoStr
  simp only [Prod.mk.injEq] at hz
  obtain ⟨hz0, hz1, hz2⟩ := hz
  have HI := Lib.hid hi0
  have HZ0 := Lib.hid hz0
  have HZ1 := Lib.hid hz1
  have HZ2 := Lib.hid hz2
  obtain ⟨n, hnn⟩ : ∃ n, n = xs.length := ⟨_, rfl⟩
  have HN := Lib.hid hnn
  rw [← hnn] at hn h ⊢
  have HR := Lib.hid h
  have HOK := Lib.hid hok
  have HTB := Lib.hid hTab
  have HLN := Lib.hid hl
  have HTC := Lib.hid hTC
  clear h hnn hi0 hz0 hz1 hz2 hok hTab hl hTC
  go_enter Tryz.func118, Tryz.ntmps118
  go_wp2_with (at_make; refine wpList_make_full _ rfl _ _ 135 rfl w.heap.size 9 i0 (.string ⟨#[]⟩) 1 Tryz.underlying135 HI.out HZ0.out HZ1.out .i64 .i64 (n : Int) (n : Int) n rfl rfl rfl rfl (by rw [HZ2.out]; omega) (by unfold maxLen; omega) (Nat.le_refl _) ?_)
  intro w1 ho1 hg1
  rw [made_empty] at ho1
  have HB1 := Lib.hid ((Below.refl w.heap.size w).grown hg1 (Nat.le_refl _) (fun k hk => by cases hk))
  have HX1 := Lib.hid (owns_full ho1)
  clear ho1 hg1
  go_wp2
  go_loopw [15] (fun i wr => TaRel (tlSet) xs n w i wr) (fun i _ => n - (intOf i).toNat)
  case atStart => exact ⟨0, rfl, Nat.zero_le _, by rw [toldA_zero]; exact HX1.out, HB1.out⟩
  case round =>
    obtain ⟨k, rfl, hk, hX, hB⟩ := hrel
    by_cases hlt : k < n
    · have c4 : decide ((k : Int) < (n : Int)) = true := by simp; omega
      have c5 : decide (k < n) = true := by simpa using hlt
      have kk : k < xs.length := by rw [← HN.out]; exact hlt
      have hRow := HR.out.keep (Kt.below (E := E0) hB) id (fun _ _ h => (fun (hk : Kt b E0 w wr) => h.keep hk id) (Kt.below (E := E0) hB))
      have hTb := tabs_on HTB.out hB
      obtain ⟨g, c, hA, hg, hp, hcell⟩ := hRow.get (fun _ _ h => h.len) k kk
      subst hA
      have HB := Lib.hid hB
      have HX := Lib.hid hX
      have HTb := Lib.hid hTb
      have hts : k < (xs.map (tlSet)).length := by rw [List.length_map]; exact kk
      have HSET := Lib.hid (toldA_set (ts := xs.map (tlSet)) hlt (by rw [List.length_map]; exact HN.out))
      have HAT := Lib.hid (toldA_at (ts := xs.map (tlSet)) hlt (by rw [List.length_map]; exact HN.out))
      obtain ⟨d, hdel, hdok, hdp⟩ : ∃ d, (xs.map (tlSet))[k]'hts = (tlSet) d ∧ DOk d ∧ DH wr b d c := ⟨xs[k], List.getElem_map _, HOK.out _ (List.getElem_mem kk), hp⟩
      have HEL := Lib.hid hdel
      have HOKK := Lib.hid hdok
      have HP := Lib.hid hdp
      clear hRow hTb hB hX hp hdel hdok
      obtain ⟨v, rfl, -⟩ := hdp
      have e0 := hcell 0 _ rfl
      have e1 := hcell 1 _ rfl
      have e2 := hcell 2 _ rfl
      have e3 := hcell 3 _ rfl
      have e4 := hcell 4 _ rfl
      have e5 := hcell 5 _ rfl
      have e6 := hcell 6 _ rfl
      simp only [Nat.add_zero] at e0
      have HC := Lib.hid (fun (W : World) (hW : Below wr.heap.size wr W) => HTC.out d W b _ HOKK.out ((fun h (hk : Kt b E0 wr W) => h.keep hk id) HP.out (Kt.below (E := E0) hW)) (tabs_on HTb.out hW))
      clear hcell
      go_wp2_with fail
      refine (HC.out _ ((Below.refl _ _).alloc (Nat.le_refl _) _)).mono ?_
      rintro e w3 ⟨rfl, hb3⟩
      have HB3 := Lib.hid (((Below.refl wr.heap.size wr).alloc (Nat.le_refl _) _).trans (hb3.mono (by simp)))
      have hX3 := HX.out.below HB3.out
      have hl3 := hX3.lt
      have hfz := hX3.frozen k
      have hcl : w3.cell? ⟨w.heap.size, k, none⟩ = some (.string ⟨#[]⟩) := (hX3.cell k).trans HAT.out
      have HX3 := Lib.hid hX3
      clear hb3 hX3
      obtain ⟨tb, htb⟩ : ∃ t : ByteArray, strV ((tlSet) d) = .string t := ⟨_, rfl⟩
      rw [htb]
      have HST := Lib.hid (show (toldA (xs.map (tlSet)) k n).set k (.string tb) = toldA (xs.map (tlSet)) (k + 1) n by rw [← htb, ← HEL.out]; exact HSET.out)
      clear htb
      go_wp2
      have HSX := Lib.hid (HX3.out.set k (.string tb))
      go_roundw
      case rel => exact ⟨k + 1, by go_num, by omega, by rw [← HST.out]; exact HSX.out, (HB.out.trans (HB3.out.mono HB.out.size)).setCell (p := ⟨w.heap.size, k, none⟩) (Nat.le_refl _) _⟩
      case measure => simp [intOf]; omega
    · have c4 : decide ((k : Int) < (n : Int)) = false := by simp; omega
      have c5 : decide (k < n) = false := by simpa using hlt
      have hkn : k = n := by omega
      rw [hkn] at hX
      obtain ⟨ss, hs1, hs2⟩ := strs_of (xs.map (tlSet))
      have hsn : n = ss.length := by
        have h1 := congrArg List.length hs1
        rw [List.length_map, List.length_map] at h1
        have := HN.out
        omega
      have HCL := Lib.hid (told_cells (by rw [List.length_map]; exact HN.out) hX hs2)
      have HXl := Lib.hid hX.lt
      have HB := Lib.hid hB
      have HJ := Lib.hid (show (Lib.join (ss.map (·.data.toList)) sep.data.toList).length ≤ 140737488355328 by rw [hs1, ← joinL_eq]; have := HLN.out; omega)
      have HJE := Lib.hid (show (⟨(Lib.join (ss.map (·.data.toList)) sep.data.toList).toArray⟩ : ByteArray) = ⟨(joinL sep.data.toList (xs.map (tlSet))).toArray⟩ by rw [hs1, ← joinL_eq])
      have HSN := Lib.hid hsn
      clear hX hB hs1 hs2 hkn hsn
      go_wp2_with fail
      rw [HSN.out]
      refine (Tryz.strings_Join w.heap.size 0 ss.length ss sep wr HCL.out HXl.out (by rw [← HSN.out]; omega) (Nat.le_refl _) HJ.out).mono ?_
      rintro e w4 ⟨rfl, hb4⟩
      rw [HJE.out]
      go_wp2
      go_ret
      exact ⟨rfl, HB.out.trans (hb4.mono HB.out.size)⟩
end Go.Proofs.YtodijgndbjfbgaaGreatDoor
