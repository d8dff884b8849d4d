/-
  A model's lists told: tellAll, walked, at each kind of part.
-/
import Derived.Test.YtodijgndbjfbgaaGreatDoorT6
import Derived.Deep.Cut
import Derived.Deep.AppendLies
import Derived.Great.Walk
import Derived.Great.BuildSlice
import Derived.Deep.MidRow
import Derived.Deep.WholeRow
namespace Go.Proofs.YtodijgndbjfbgaaGreatDoor
open Go.RowKit

set_option maxHeartbeats 4000000 in
set_option maxRecDepth 100000 in
theorem tavar_any (hTC : ToldC 61 VH VOk (tlVar)) {xs : List VarO} {A : Option Addr} {cap b : Nat} (w : World) (h : Row w b 112 19 (VH w b) xs (.slice A xs.length cap)) (hok : ∀ x ∈ xs, VOk x) (hTab : Tabs w) (hn : xs.length ≤ 2000000) (sep : ByteArray) (hl : (joinL sep.data.toList (xs.map (tlVar))).length ≤ 100000000) :
    Calls Tryz.prog 60 #[.slice A xs.length cap, .string sep, .func (.func 61) #[] #[]] w (TlP (joinL sep.data.toList (xs.map (tlVar))) w) := by
  obtain ⟨i0, hi0, hz⟩ := Option.map_eq_some_iff.1 infoStr
  simp only [Prod.mk.injEq] at hz
  obtain ⟨hz0, hz1, hz2⟩ := hz
  have HI := Lib.hid hi0
  have HZ0 := Lib.hid hz0
  have HZ1 := Lib.hid hz1
  have HZ2 := Lib.hid hz2
  obtain ⟨n, hnn⟩ : ∃ n, n = xs.length := ⟨_, rfl⟩
  have HN := Lib.hid hnn
  rw [← hnn] at hn h ⊢
  have HR := Lib.hid h
  have HOK := Lib.hid hok
  have HTB := Lib.hid hTab
  have HLN := Lib.hid hl
  have HTC := Lib.hid hTC
  clear h hnn hi0 hz0 hz1 hz2 hok hTab hl hTC
  go_enter Tryz.func60, Tryz.ntmps60
  go_wp2_with (at_make; refine wpList_make_full _ rfl _ _ 135 rfl w.heap.size 9 i0 (.string ⟨#[]⟩) 1 Tryz.underlying135 HI.out HZ0.out HZ1.out .i64 .i64 (n : Int) (n : Int) n rfl rfl rfl rfl (by rw [HZ2.out]; omega) (by unfold maxLen; omega) (Nat.le_refl _) ?_)
  intro w1 ho1 hg1
  rw [made_empty] at ho1
  have HB1 := Lib.hid ((Below.refl w.heap.size w).grown hg1 (Nat.le_refl _) (fun k hk => by cases hk))
  have HX1 := Lib.hid (owns_full ho1)
  clear ho1 hg1
  go_wp2
  go_loopw [15] (fun i wr => TaRel (tlVar) xs n w i wr) (fun i _ => n - (intOf i).toNat)
  case atStart => exact ⟨0, rfl, Nat.zero_le _, by rw [toldA_zero]; exact HX1.out, HB1.out⟩
  case round =>
    obtain ⟨k, rfl, hk, hX, hB⟩ := hrel
    by_cases hlt : k < n
    · have c4 : decide ((k : Int) < (n : Int)) = true := by simp; omega
      have c5 : decide (k < n) = true := by simpa using hlt
      have kk : k < xs.length := by rw [← HN.out]; exact hlt
      have hRow := HR.out.keep (Kt.below (E := E0) hB) id (fun _ _ h => (fun (hk : Kt b E0 w wr) => h.keep hk id) (Kt.below (E := E0) hB))
      have hTb := tabs_on HTB.out hB
      obtain ⟨g, c, hA, hg, hp, hcell⟩ := hRow.get (fun _ _ h => h.len) k kk
      subst hA
      have HB := Lib.hid hB
      have HX := Lib.hid hX
      have HTb := Lib.hid hTb
      have hts : k < (xs.map (tlVar)).length := by rw [List.length_map]; exact kk
      have HSET := Lib.hid (toldA_set (ts := xs.map (tlVar)) hlt (by rw [List.length_map]; exact HN.out))
      have HAT := Lib.hid (toldA_at (ts := xs.map (tlVar)) hlt (by rw [List.length_map]; exact HN.out))
      obtain ⟨d, hdel, hdok, hdp⟩ : ∃ d, (xs.map (tlVar))[k]'hts = (tlVar) d ∧ VOk d ∧ VH wr b d c := ⟨xs[k], List.getElem_map _, HOK.out _ (List.getElem_mem kk), hp⟩
      have HEL := Lib.hid hdel
      have HOKK := Lib.hid hdok
      have HP := Lib.hid hdp
      clear hRow hTb hB hX hp hdel hdok
      obtain ⟨v1, v2, v3, rfl, -⟩ := hdp
      have HRG := Lib.hid (show wr.rangeAt g (k * 19) [.string ⟨d.nm.toArray⟩, .bool d.isB, .string v1.o, .string v1.nm, .int .i64 v1.n, .slice v1.A v1.ll v1.cap, .int .i64 v1.p, .string v2.o, .string v2.nm, .int .i64 v2.n, .slice v2.A v2.ll v2.cap, .int .i64 v2.p, .string v3.o, .string v3.nm, .int .i64 v3.n, .slice v3.A v3.ll v3.cap, .int .i64 v3.p, .bool d.has, .int .i64 ((d.pos : Nat) : Int)] from hcell)
      have HC := Lib.hid (fun (W : World) (hW : Below wr.heap.size wr W) => HTC.out d W b _ HOKK.out ((fun h (hk : Kt b E0 wr W) => h.keep hk id) HP.out (Kt.below (E := E0) hW)) (tabs_on HTb.out hW))
      clear hcell
      go_upto_region 4 with fail
      apply wp_region_lit
      refine Go.Great.wpList_runTo rfl (some 17) rfl (.int .i64 (k : Int)) wr rfl ?_
      simp only [Act.put, List.setIfInBounds_toArray, List.set_cons_zero, List.set_cons_succ]
      refine Go.Great.wpList_runTo rfl (some 18) rfl (.pointer (some ⟨g, k * 19, none⟩)) wr ?ix ?_
      case ix => go_simp
      simp only [Act.put, List.setIfInBounds_toArray, List.set_cons_zero, List.set_cons_succ]
      refine wpList_load_mid rfl 112 _ rfl g (k * 19) rfl [.string ⟨d.nm.toArray⟩, .bool d.isB, .string v1.o, .string v1.nm, .int .i64 v1.n, .slice v1.A v1.ll v1.cap, .int .i64 v1.p, .string v2.o, .string v2.nm, .int .i64 v2.n, .slice v2.A v2.ll v2.cap, .int .i64 v2.p, .string v3.o, .string v3.nm, .int .i64 v3.n, .slice v3.A v3.ll v3.cap, .int .i64 v3.p, .bool d.has, .int .i64 ((d.pos : Nat) : Int)] _ HRG.out Tryz.underlying112 rfl infoVar ?_
      simp only [Act.put, List.setIfInBounds_toArray, List.set_cons_zero, List.set_cons_succ]
      refine Go.Great.wpList_runTo rfl (some 9) rfl (.pointer (some ⟨wr.heap.size, 0, none⟩)) (wr.alloc (.cells #[.string ⟨#[]⟩, .bool false, .string ⟨#[]⟩, .string ⟨#[]⟩, .int .i64 0, .slice none 0 0, .int .i64 0, .string ⟨#[]⟩, .string ⟨#[]⟩, .int .i64 0, .slice none 0 0, .int .i64 0, .string ⟨#[]⟩, .string ⟨#[]⟩, .int .i64 0, .slice none 0 0, .int .i64 0, .bool false, .int .i64 0] 112)) (by kernel_rfl) ?_
      simp only [Act.put, List.setIfInBounds_toArray, List.set_cons_zero, List.set_cons_succ]
      refine Go.Great.wpList_runTo rfl (some 8) rfl (.int .i64 (k : Int)) _ rfl ?_
      simp only [Act.put, List.setIfInBounds_toArray, List.set_cons_zero, List.set_cons_succ]
      refine Go.wpList_store_rowTo rfl 112 _ _ rfl rfl wr.heap.size #[.string ⟨d.nm.toArray⟩, .bool d.isB, .string v1.o, .string v1.nm, .int .i64 v1.n, .slice v1.A v1.ll v1.cap, .int .i64 v1.p, .string v2.o, .string v2.nm, .int .i64 v2.n, .slice v2.A v2.ll v2.cap, .int .i64 v2.p, .string v3.o, .string v3.nm, .int .i64 v3.n, .slice v3.A v3.ll v3.cap, .int .i64 v3.p, .bool d.has, .int .i64 ((d.pos : Nat) : Int)] rfl rfl 112 #[.string ⟨#[]⟩, .bool false, .string ⟨#[]⟩, .string ⟨#[]⟩, .int .i64 0, .slice none 0 0, .int .i64 0, .string ⟨#[]⟩, .string ⟨#[]⟩, .int .i64 0, .slice none 0 0, .int .i64 0, .string ⟨#[]⟩, .string ⟨#[]⟩, .int .i64 0, .slice none 0 0, .int .i64 0, .bool false, .int .i64 0] (heap_alloc_new wr _) infoVar rfl (by simp [Value.oneCell']) ?_
      rw [World.setRow_alloc_new]
      apply wpList_nil
      go_upto_region 5 with fail
      apply wp_region_lit
      refine Go.Great.wpList_runTo rfl (some 20) rfl (.slice (some ⟨w.heap.size, 0, none⟩) n n) _ rfl ?_
      simp only [Act.put, List.setIfInBounds_toArray, List.set_cons_zero, List.set_cons_succ]
      refine Go.Great.wpList_runTo rfl (some 21) rfl (.int .i64 (k : Int)) _ rfl ?_
      simp only [Act.put, List.setIfInBounds_toArray, List.set_cons_zero, List.set_cons_succ]
      refine Go.Great.wpList_runTo rfl (some 22) rfl (.func (.func 61) #[] #[]) _ rfl ?_
      simp only [Act.put, List.setIfInBounds_toArray, List.set_cons_zero, List.set_cons_succ]
      refine wpList_load_row rfl 112 _ rfl wr.heap.size rfl 112 #[.string ⟨d.nm.toArray⟩, .bool d.isB, .string v1.o, .string v1.nm, .int .i64 v1.n, .slice v1.A v1.ll v1.cap, .int .i64 v1.p, .string v2.o, .string v2.nm, .int .i64 v2.n, .slice v2.A v2.ll v2.cap, .int .i64 v2.p, .string v3.o, .string v3.nm, .int .i64 v3.n, .slice v3.A v3.ll v3.cap, .int .i64 v3.p, .bool d.has, .int .i64 ((d.pos : Nat) : Int)] (0, 0) _ (heap_alloc_new wr _) Tryz.underlying112 rfl infoVar ?_
      simp only [Act.put, List.setIfInBounds_toArray, List.set_cons_zero, List.set_cons_succ]
      have HBa := Lib.hid (show Below wr.heap.size wr (wr.alloc (.cells #[.string ⟨d.nm.toArray⟩, .bool d.isB, .string v1.o, .string v1.nm, .int .i64 v1.n, .slice v1.A v1.ll v1.cap, .int .i64 v1.p, .string v2.o, .string v2.nm, .int .i64 v2.n, .slice v2.A v2.ll v2.cap, .int .i64 v2.p, .string v3.o, .string v3.nm, .int .i64 v3.n, .slice v3.A v3.ll v3.cap, .int .i64 v3.p, .bool d.has, .int .i64 ((d.pos : Nat) : Int)] 112)) from (Below.refl _ _).alloc (Nat.le_refl _) _)
      have hsz : wr.heap.size ≤ (wr.alloc (.cells #[.string ⟨d.nm.toArray⟩, .bool d.isB, .string v1.o, .string v1.nm, .int .i64 v1.n, .slice v1.A v1.ll v1.cap, .int .i64 v1.p, .string v2.o, .string v2.nm, .int .i64 v2.n, .slice v2.A v2.ll v2.cap, .int .i64 v2.p, .string v3.o, .string v3.nm, .int .i64 v3.n, .slice v3.A v3.ll v3.cap, .int .i64 v3.p, .bool d.has, .int .i64 ((d.pos : Nat) : Int)] 112)).heap.size := HBa.out.size
      generalize wr.alloc (.cells #[.string ⟨d.nm.toArray⟩, .bool d.isB, .string v1.o, .string v1.nm, .int .i64 v1.n, .slice v1.A v1.ll v1.cap, .int .i64 v1.p, .string v2.o, .string v2.nm, .int .i64 v2.n, .slice v2.A v2.ll v2.cap, .int .i64 v2.p, .string v3.o, .string v3.nm, .int .i64 v3.n, .slice v3.A v3.ll v3.cap, .int .i64 v3.p, .bool d.has, .int .i64 ((d.pos : Nat) : Int)] 112) = wb at HBa hsz ⊢
      go_wp2_with fail
      refine (HC.out wb HBa.out).mono ?_
      rintro e w3 ⟨rfl, hb3⟩
      have HB3 := Lib.hid (HBa.out.trans (hb3.mono hsz))
      have hX3 := HX.out.below HB3.out
      have hl3 := hX3.lt
      have hfz := hX3.frozen k
      have hcl : w3.cell? ⟨w.heap.size, k, none⟩ = some (.string ⟨#[]⟩) := (hX3.cell k).trans HAT.out
      have HX3 := Lib.hid hX3
      clear hb3 hX3
      obtain ⟨tb, htb⟩ : ∃ t : ByteArray, strV ((tlVar) d) = .string t := ⟨_, rfl⟩
      rw [htb]
      have HST := Lib.hid (show (toldA (xs.map (tlVar)) k n).set k (.string tb) = toldA (xs.map (tlVar)) (k + 1) n by rw [← htb, ← HEL.out]; exact HSET.out)
      clear htb
      go_wp2
      have HSX := Lib.hid (HX3.out.set k (.string tb))
      go_roundw
      case rel => exact ⟨k + 1, by go_num, by omega, by rw [← HST.out]; exact HSX.out, (HB.out.trans (HB3.out.mono HB.out.size)).setCell (p := ⟨w.heap.size, k, none⟩) (Nat.le_refl _) _⟩
      case measure => simp [intOf]; omega
    · have c4 : decide ((k : Int) < (n : Int)) = false := by simp; omega
      have c5 : decide (k < n) = false := by simpa using hlt
      have hkn : k = n := by omega
      rw [hkn] at hX
      obtain ⟨ss, hs1, hs2⟩ := strs_of (xs.map (tlVar))
      have hsn : n = ss.length := by
        have h1 := congrArg List.length hs1
        rw [List.length_map, List.length_map] at h1
        have := HN.out
        omega
      have HCL := Lib.hid (told_cells (by rw [List.length_map]; exact HN.out) hX hs2)
      have HXl := Lib.hid hX.lt
      have HB := Lib.hid hB
      have HJ := Lib.hid (show (Lib.join (ss.map (·.data.toList)) sep.data.toList).length ≤ 140737488355328 by rw [hs1, ← joinL_eq]; have := HLN.out; omega)
      have HJE := Lib.hid (show (⟨(Lib.join (ss.map (·.data.toList)) sep.data.toList).toArray⟩ : ByteArray) = ⟨(joinL sep.data.toList (xs.map (tlVar))).toArray⟩ by rw [hs1, ← joinL_eq])
      have HSN := Lib.hid hsn
      clear hX hB hs1 hs2 hkn hsn
      go_wp2_with fail
      rw [HSN.out]
      refine (Tryz.strings_Join w.heap.size 0 ss.length ss sep wr HCL.out HXl.out (by rw [← HSN.out]; omega) (Nat.le_refl _) HJ.out).mono ?_
      rintro e w4 ⟨rfl, hb4⟩
      rw [HJE.out]
      go_wp2
      go_ret
      exact ⟨rfl, HB.out.trans (hb4.mono HB.out.size)⟩
end Go.Proofs.YtodijgndbjfbgaaGreatDoor
