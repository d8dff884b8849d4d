/-
  The document's text of an expression: walked.
-/
import Derived.Test.YtddeplbgihcdkaaGreatDoorD4
namespace Go.Proofs.YtddeplbgihcdkaaGreatDoor
open Go.RowKit Go.Sort

theorem par_geD (b : Bool) (l : List UInt8) : l.length ≤ (parX b l).length := by cases b <;> simp [parX] <;> omega
theorem par_lenD {x : Ex} (b : Bool) (h : (shw x).length ≤ 1000000) : (parX b (shw x)).length ≤ 1000002 := by
  cases b <;> simp [parX] <;> omega
theorem str_of (l : List UInt8) (n : Nat) (h : l.length ≤ n) : ∃ t : ByteArray, t.data.toList = l ∧ t.size ≤ n := ⟨⟨l.toArray⟩, rfl, by rw [← size_list]; exact h⟩
theorem bytes_neD {op l : List UInt8} (h : op ≠ l) : ((⟨op.toArray⟩ : ByteArray).toList == l) = false := by rw [ByteArray.toList_eq]; simpa using h
set_option maxHeartbeats 4000000 in
set_option maxRecDepth 100000 in
theorem pr_1 {op : List UInt8} {a b : Ex} {q : Nat} (hr : rk op = 1) (ha : PrC a) (hb : PrC b) : PrC (.bin op a b q) := by
  intro w S c hH hl
  obtain ⟨A, cap, rfl, hk⟩ := hH.view
  obtain ⟨g, _, _, _, _, _, _, _, rfl, _⟩ := hk 0 (by simp [Ex.kids])
  obtain ⟨va, hva⟩ := kr_atR hk 0 (by simp [Ex.kids])
  obtain ⟨vb, hvb⟩ := kr_atR hk 1 (by simp [Ex.kids])
  have hsh : shw (.bin op a b q) = parX (decide (rk a.op < 2)) (shw a) ++ (32 :: op ++ 32 :: parX (decide (rk b.op < 1)) (shw b)) := by simp [shw, hr, lo]
  have hla : (shw a).length ≤ 1000000 := by rw [hsh, List.length_append] at hl; have := par_geD (decide (rk a.op < 2)) (shw a); omega
  have hlb : (shw b).length ≤ 1000000 := by rw [hsh, List.length_append, List.length_append, List.length_cons, List.length_cons] at hl; have := par_geD (decide (rk b.op < 1)) (shw b); omega
  have hop : op.length ≤ 3 := op_len (by omega)
  have ho1 : op ≠ opNum := fun e => by rw [e] at hr; exact absurd hr (by decide)
  have ho2 : op ≠ opName := fun e => by rw [e] at hr; exact absurd hr (by decide)
  have himp := rk_one hr
  obtain ⟨ta, hta, hta2⟩ := str_of (parX (decide (rk a.op < 2)) (shw a)) 1000002 (par_lenD _ hla)
  obtain ⟨tb, htb, htb2⟩ := str_of (parX (decide (rk b.op < 1)) (shw b)) 1000002 (par_lenD _ hlb)
  change Calls Tryz.prog 36 #[.agg #[.string ⟨op.toArray⟩, .string ⟨([] : List UInt8).toArray⟩, .int .i64 ((0 : Nat) : Int), .slice (some ⟨g, 0, none⟩) 2 cap, .int .i64 (q : Int)]] w _
  have g1 : ((⟨op.toArray⟩ : ByteArray).toList == [110, 117, 109]) = false := bytes_neD ho1
  have g2 : ((⟨op.toArray⟩ : ByteArray).toList == [110, 97, 109, 101]) = false := bytes_neD ho2
  have H1 := Lib.hid (rrank_any ⟨op.toArray⟩ (w.alloc (.cells #[.string ⟨op.toArray⟩, .string ⟨([] : List UInt8).toArray⟩, .int .i64 ((0 : Nat) : Int), .slice (some ⟨g, 0, none⟩) 2 cap, .int .i64 (q : Int)] 70)))
  have e1 : (⟨op.toArray⟩ : ByteArray).data.toList = op := rfl
  rw [e1, hr] at H1
  have hos : (⟨op.toArray⟩ : ByteArray).size ≤ 3 := by rw [← size_list]; exact hop
  have HIMP := Lib.hid himp
  clear himp
  have HO := Lib.hid e1
  have HSH := Lib.hid hsh
  have HTA := Lib.hid hta
  have HTB := Lib.hid htb
  have HLA := Lib.hid hla
  have HLB := Lib.hid hlb
  have HIA := Lib.hid ha
  have HIB := Lib.hid hb
  have hba := (Below.refl w.heap.size w).alloc (Nat.le_refl _) (.cells #[.string ⟨op.toArray⟩, .string ⟨([] : List UInt8).toArray⟩, .int .i64 ((0 : Nat) : Int), .slice (some ⟨g, 0, none⟩) 2 cap, .int .i64 (q : Int)] 70)
  have HPL := Lib.hid (show PL2 w (w.alloc (.cells #[.string ⟨op.toArray⟩, .string ⟨([] : List UInt8).toArray⟩, .int .i64 ((0 : Nat) : Int), .slice (some ⟨g, 0, none⟩) 2 cap, .int .i64 (q : Int)] 70)) w.heap.size g ⟨op.toArray⟩ ⟨([] : List UInt8).toArray⟩ cap ((0 : Nat) : Int) (q : Int) va vb a b S from ⟨heap_alloc_new w _, hva.below hba, hvb.below hba, hba⟩)
  clear hH hk hva hvb hsh hta htb hla hlb ha hb hba e1 hl ho1 ho2 hop
  generalize (⟨op.toArray⟩ : ByteArray) = o at *
  generalize (⟨([] : List UInt8).toArray⟩ : ByteArray) = nm at *
  generalize ((0 : Nat) : Int) = n0 at *
  generalize (q : Int) = q0 at *
  go_enter Tryz.func36, Tryz.ntmps36
  go_wp2_with fail
  refine (H1.out).mono ?_
  rintro e w1 ⟨rfl, hb1⟩
  have LK := Lib.hid (HPL.out.below hb1)
  obtain ⟨b0, b1, b2, b3, b4⟩ := LK.out.bx.cells
  have hbl := LK.out.bx.lt
  clear hb1 HPL
  go_wp2_with fail
  have k0 : ¬ 9223372036854775807 < ta.size + 4 := by omega
  have k1 : ¬ 9223372036854775807 < ta.size + 4 + tb.size := by omega
  have lk := LK.out.drew
  clear LK b0 b1 b2 b3 b4
  go_region_held3 (fun w' => w'.cell? ⟨w.heap.size, 0, none⟩ = some (.string o) ∧ w'.cell? ⟨w.heap.size, 3, none⟩ = some (.slice (some ⟨g, 0, none⟩) 2 cap) ∧ w'.cell? ⟨g, 0, none⟩ = some (.string va.o) ∧ w'.cell? ⟨g, 1, none⟩ = some (.string va.nm) ∧ w'.cell? ⟨g, 2, none⟩ = some (.int .i64 va.n) ∧ w'.cell? ⟨g, 3, none⟩ = some (.slice va.A va.ll va.cap) ∧ w'.cell? ⟨g, 4, none⟩ = some (.int .i64 va.p) ∧ w'.cell? ⟨g, 5, none⟩ = some (.string vb.o) ∧ w'.cell? ⟨g, 6, none⟩ = some (.string vb.nm) ∧ w'.cell? ⟨g, 7, none⟩ = some (.int .i64 vb.n) ∧ w'.cell? ⟨g, 8, none⟩ = some (.slice vb.A vb.ll vb.cap) ∧ w'.cell? ⟨g, 9, none⟩ = some (.int .i64 vb.p)) (exact lk.get) (first
    | (go_at_call 76; (with_reducible refine (lk.kid1 HIA.out HLA.out 2 2 (by decide) HTA.out).mono ?_); rintro e wA ⟨rfl, lk⟩)
    | (go_at_call 76; (with_reducible refine (lk.kid2 HIB.out HLB.out 1 1 (by decide) HTB.out).mono ?_); rintro e wA ⟨rfl, lk⟩))
  all_goals go_wp2
  all_goals go_ret
  all_goals exact ⟨ret_str (by rw [HSH.out]; simp [HTA.out, HTB.out, HIMP.out]), lk.w⟩
set_option maxHeartbeats 4000000 in
set_option maxRecDepth 100000 in
theorem pr_2 {op : List UInt8} {a b : Ex} {q : Nat} (hr : rk op = 2) (ha : PrC a) (hb : PrC b) : PrC (.bin op a b q) := by
  intro w S c hH hl
  obtain ⟨A, cap, rfl, hk⟩ := hH.view
  obtain ⟨g, _, _, _, _, _, _, _, rfl, _⟩ := hk 0 (by simp [Ex.kids])
  obtain ⟨va, hva⟩ := kr_atR hk 0 (by simp [Ex.kids])
  obtain ⟨vb, hvb⟩ := kr_atR hk 1 (by simp [Ex.kids])
  have hsh : shw (.bin op a b q) = parX (decide (rk a.op < 2)) (shw a) ++ (32 :: op ++ 32 :: parX (decide (rk b.op < 3)) (shw b)) := by simp [shw, hr, lo]
  have hla : (shw a).length ≤ 1000000 := by rw [hsh, List.length_append] at hl; have := par_geD (decide (rk a.op < 2)) (shw a); omega
  have hlb : (shw b).length ≤ 1000000 := by rw [hsh, List.length_append, List.length_append, List.length_cons, List.length_cons] at hl; have := par_geD (decide (rk b.op < 3)) (shw b); omega
  have hop : op.length ≤ 3 := op_len (by omega)
  have ho1 : op ≠ opNum := fun e => by rw [e] at hr; exact absurd hr (by decide)
  have ho2 : op ≠ opName := fun e => by rw [e] at hr; exact absurd hr (by decide)
  obtain ⟨ta, hta, hta2⟩ := str_of (parX (decide (rk a.op < 2)) (shw a)) 1000002 (par_lenD _ hla)
  obtain ⟨tb, htb, htb2⟩ := str_of (parX (decide (rk b.op < 3)) (shw b)) 1000002 (par_lenD _ hlb)
  change Calls Tryz.prog 36 #[.agg #[.string ⟨op.toArray⟩, .string ⟨([] : List UInt8).toArray⟩, .int .i64 ((0 : Nat) : Int), .slice (some ⟨g, 0, none⟩) 2 cap, .int .i64 (q : Int)]] w _
  have g1 : ((⟨op.toArray⟩ : ByteArray).toList == [110, 117, 109]) = false := bytes_neD ho1
  have g2 : ((⟨op.toArray⟩ : ByteArray).toList == [110, 97, 109, 101]) = false := bytes_neD ho2
  have H1 := Lib.hid (rrank_any ⟨op.toArray⟩ (w.alloc (.cells #[.string ⟨op.toArray⟩, .string ⟨([] : List UInt8).toArray⟩, .int .i64 ((0 : Nat) : Int), .slice (some ⟨g, 0, none⟩) 2 cap, .int .i64 (q : Int)] 70)))
  have e1 : (⟨op.toArray⟩ : ByteArray).data.toList = op := rfl
  rw [e1, hr] at H1
  have hos : (⟨op.toArray⟩ : ByteArray).size ≤ 3 := by rw [← size_list]; exact hop
  have HO := Lib.hid e1
  have HSH := Lib.hid hsh
  have HTA := Lib.hid hta
  have HTB := Lib.hid htb
  have HLA := Lib.hid hla
  have HLB := Lib.hid hlb
  have HIA := Lib.hid ha
  have HIB := Lib.hid hb
  have hba := (Below.refl w.heap.size w).alloc (Nat.le_refl _) (.cells #[.string ⟨op.toArray⟩, .string ⟨([] : List UInt8).toArray⟩, .int .i64 ((0 : Nat) : Int), .slice (some ⟨g, 0, none⟩) 2 cap, .int .i64 (q : Int)] 70)
  have HPL := Lib.hid (show PL2 w (w.alloc (.cells #[.string ⟨op.toArray⟩, .string ⟨([] : List UInt8).toArray⟩, .int .i64 ((0 : Nat) : Int), .slice (some ⟨g, 0, none⟩) 2 cap, .int .i64 (q : Int)] 70)) w.heap.size g ⟨op.toArray⟩ ⟨([] : List UInt8).toArray⟩ cap ((0 : Nat) : Int) (q : Int) va vb a b S from ⟨heap_alloc_new w _, hva.below hba, hvb.below hba, hba⟩)
  clear hH hk hva hvb hsh hta htb hla hlb ha hb hba e1 hl ho1 ho2 hop
  generalize (⟨op.toArray⟩ : ByteArray) = o at *
  generalize (⟨([] : List UInt8).toArray⟩ : ByteArray) = nm at *
  generalize ((0 : Nat) : Int) = n0 at *
  generalize (q : Int) = q0 at *
  go_enter Tryz.func36, Tryz.ntmps36
  go_wp2_with fail
  refine (H1.out).mono ?_
  rintro e w1 ⟨rfl, hb1⟩
  have LK := Lib.hid (HPL.out.below hb1)
  obtain ⟨b0, b1, b2, b3, b4⟩ := LK.out.bx.cells
  have hbl := LK.out.bx.lt
  clear hb1 HPL
  go_wp2_with fail
  have k0 : ¬ 9223372036854775807 < ta.size + 1 := by omega
  have k1 : ¬ 9223372036854775807 < ta.size + 1 + o.size := by omega
  have k2 : ¬ 9223372036854775807 < ta.size + 1 + o.size + 1 := by omega
  have k3 : ¬ 9223372036854775807 < ta.size + 1 + o.size + 1 + tb.size := by omega
  have kw : IntKind.i64.wrap 3 = 3 := by decide
  have lk := LK.out.drew
  clear LK b0 b1 b2 b3 b4
  go_region_held3 (fun w' => w'.cell? ⟨w.heap.size, 0, none⟩ = some (.string o) ∧ w'.cell? ⟨w.heap.size, 3, none⟩ = some (.slice (some ⟨g, 0, none⟩) 2 cap) ∧ w'.cell? ⟨g, 0, none⟩ = some (.string va.o) ∧ w'.cell? ⟨g, 1, none⟩ = some (.string va.nm) ∧ w'.cell? ⟨g, 2, none⟩ = some (.int .i64 va.n) ∧ w'.cell? ⟨g, 3, none⟩ = some (.slice va.A va.ll va.cap) ∧ w'.cell? ⟨g, 4, none⟩ = some (.int .i64 va.p) ∧ w'.cell? ⟨g, 5, none⟩ = some (.string vb.o) ∧ w'.cell? ⟨g, 6, none⟩ = some (.string vb.nm) ∧ w'.cell? ⟨g, 7, none⟩ = some (.int .i64 vb.n) ∧ w'.cell? ⟨g, 8, none⟩ = some (.slice vb.A vb.ll vb.cap) ∧ w'.cell? ⟨g, 9, none⟩ = some (.int .i64 vb.p)) (exact lk.get) (first
    | (go_at_call 76; (with_reducible refine (lk.kid1 HIA.out HLA.out 2 2 (by decide) HTA.out).mono ?_); rintro e wA ⟨rfl, lk⟩)
    | (go_at_call 76; (with_reducible refine (lk.kid2 HIB.out HLB.out 3 3 (by decide) HTB.out).mono ?_); rintro e wA ⟨rfl, lk⟩))
  all_goals go_wp2
  all_goals go_ret
  all_goals exact ⟨ret_str (by rw [HSH.out]; simp [HTA.out, HTB.out, HO.out]), lk.w⟩
set_option maxHeartbeats 4000000 in
set_option maxRecDepth 100000 in
theorem pr_3 {op : List UInt8} {a b : Ex} {q : Nat} (hr : rk op = 3) (ha : PrC a) (hb : PrC b) : PrC (.bin op a b q) := by
  intro w S c hH hl
  obtain ⟨A, cap, rfl, hk⟩ := hH.view
  obtain ⟨g, _, _, _, _, _, _, _, rfl, _⟩ := hk 0 (by simp [Ex.kids])
  obtain ⟨va, hva⟩ := kr_atR hk 0 (by simp [Ex.kids])
  obtain ⟨vb, hvb⟩ := kr_atR hk 1 (by simp [Ex.kids])
  have hsh : shw (.bin op a b q) = parX (decide (rk a.op < 3)) (shw a) ++ (32 :: op ++ 32 :: parX (decide (rk b.op < 4)) (shw b)) := by simp [shw, hr, lo]
  have hla : (shw a).length ≤ 1000000 := by rw [hsh, List.length_append] at hl; have := par_geD (decide (rk a.op < 3)) (shw a); omega
  have hlb : (shw b).length ≤ 1000000 := by rw [hsh, List.length_append, List.length_append, List.length_cons, List.length_cons] at hl; have := par_geD (decide (rk b.op < 4)) (shw b); omega
  have hop : op.length ≤ 3 := op_len (by omega)
  have ho1 : op ≠ opNum := fun e => by rw [e] at hr; exact absurd hr (by decide)
  have ho2 : op ≠ opName := fun e => by rw [e] at hr; exact absurd hr (by decide)
  obtain ⟨ta, hta, hta2⟩ := str_of (parX (decide (rk a.op < 3)) (shw a)) 1000002 (par_lenD _ hla)
  obtain ⟨tb, htb, htb2⟩ := str_of (parX (decide (rk b.op < 4)) (shw b)) 1000002 (par_lenD _ hlb)
  change Calls Tryz.prog 36 #[.agg #[.string ⟨op.toArray⟩, .string ⟨([] : List UInt8).toArray⟩, .int .i64 ((0 : Nat) : Int), .slice (some ⟨g, 0, none⟩) 2 cap, .int .i64 (q : Int)]] w _
  have g1 : ((⟨op.toArray⟩ : ByteArray).toList == [110, 117, 109]) = false := bytes_neD ho1
  have g2 : ((⟨op.toArray⟩ : ByteArray).toList == [110, 97, 109, 101]) = false := bytes_neD ho2
  have H1 := Lib.hid (rrank_any ⟨op.toArray⟩ (w.alloc (.cells #[.string ⟨op.toArray⟩, .string ⟨([] : List UInt8).toArray⟩, .int .i64 ((0 : Nat) : Int), .slice (some ⟨g, 0, none⟩) 2 cap, .int .i64 (q : Int)] 70)))
  have e1 : (⟨op.toArray⟩ : ByteArray).data.toList = op := rfl
  rw [e1, hr] at H1
  have hos : (⟨op.toArray⟩ : ByteArray).size ≤ 3 := by rw [← size_list]; exact hop
  have HO := Lib.hid e1
  have HSH := Lib.hid hsh
  have HTA := Lib.hid hta
  have HTB := Lib.hid htb
  have HLA := Lib.hid hla
  have HLB := Lib.hid hlb
  have HIA := Lib.hid ha
  have HIB := Lib.hid hb
  have hba := (Below.refl w.heap.size w).alloc (Nat.le_refl _) (.cells #[.string ⟨op.toArray⟩, .string ⟨([] : List UInt8).toArray⟩, .int .i64 ((0 : Nat) : Int), .slice (some ⟨g, 0, none⟩) 2 cap, .int .i64 (q : Int)] 70)
  have HPL := Lib.hid (show PL2 w (w.alloc (.cells #[.string ⟨op.toArray⟩, .string ⟨([] : List UInt8).toArray⟩, .int .i64 ((0 : Nat) : Int), .slice (some ⟨g, 0, none⟩) 2 cap, .int .i64 (q : Int)] 70)) w.heap.size g ⟨op.toArray⟩ ⟨([] : List UInt8).toArray⟩ cap ((0 : Nat) : Int) (q : Int) va vb a b S from ⟨heap_alloc_new w _, hva.below hba, hvb.below hba, hba⟩)
  clear hH hk hva hvb hsh hta htb hla hlb ha hb hba e1 hl ho1 ho2 hop
  generalize (⟨op.toArray⟩ : ByteArray) = o at *
  generalize (⟨([] : List UInt8).toArray⟩ : ByteArray) = nm at *
  generalize ((0 : Nat) : Int) = n0 at *
  generalize (q : Int) = q0 at *
  go_enter Tryz.func36, Tryz.ntmps36
  go_wp2_with fail
  refine (H1.out).mono ?_
  rintro e w1 ⟨rfl, hb1⟩
  have LK := Lib.hid (HPL.out.below hb1)
  obtain ⟨b0, b1, b2, b3, b4⟩ := LK.out.bx.cells
  have hbl := LK.out.bx.lt
  clear hb1 HPL
  go_wp2_with fail
  have k0 : ¬ 9223372036854775807 < ta.size + 1 := by omega
  have k1 : ¬ 9223372036854775807 < ta.size + 1 + o.size := by omega
  have k2 : ¬ 9223372036854775807 < ta.size + 1 + o.size + 1 := by omega
  have k3 : ¬ 9223372036854775807 < ta.size + 1 + o.size + 1 + tb.size := by omega
  have kw : IntKind.i64.wrap 4 = 4 := by decide
  have lk := LK.out.drew
  clear LK b0 b1 b2 b3 b4
  go_region_held3 (fun w' => w'.cell? ⟨w.heap.size, 0, none⟩ = some (.string o) ∧ w'.cell? ⟨w.heap.size, 3, none⟩ = some (.slice (some ⟨g, 0, none⟩) 2 cap) ∧ w'.cell? ⟨g, 0, none⟩ = some (.string va.o) ∧ w'.cell? ⟨g, 1, none⟩ = some (.string va.nm) ∧ w'.cell? ⟨g, 2, none⟩ = some (.int .i64 va.n) ∧ w'.cell? ⟨g, 3, none⟩ = some (.slice va.A va.ll va.cap) ∧ w'.cell? ⟨g, 4, none⟩ = some (.int .i64 va.p) ∧ w'.cell? ⟨g, 5, none⟩ = some (.string vb.o) ∧ w'.cell? ⟨g, 6, none⟩ = some (.string vb.nm) ∧ w'.cell? ⟨g, 7, none⟩ = some (.int .i64 vb.n) ∧ w'.cell? ⟨g, 8, none⟩ = some (.slice vb.A vb.ll vb.cap) ∧ w'.cell? ⟨g, 9, none⟩ = some (.int .i64 vb.p)) (exact lk.get) (first
    | (go_at_call 76; (with_reducible refine (lk.kid1 HIA.out HLA.out 3 3 (by decide) HTA.out).mono ?_); rintro e wA ⟨rfl, lk⟩)
    | (go_at_call 76; (with_reducible refine (lk.kid2 HIB.out HLB.out 4 4 (by decide) HTB.out).mono ?_); rintro e wA ⟨rfl, lk⟩))
  all_goals go_wp2
  all_goals go_ret
  all_goals exact ⟨ret_str (by rw [HSH.out]; simp [HTA.out, HTB.out, HO.out]), lk.w⟩
set_option maxHeartbeats 4000000 in
set_option maxRecDepth 100000 in
theorem pr_5 {op : List UInt8} {a b : Ex} {q : Nat} (hr : rk op = 5) (ha : PrC a) (hb : PrC b) : PrC (.bin op a b q) := by
  intro w S c hH hl
  obtain ⟨A, cap, rfl, hk⟩ := hH.view
  obtain ⟨g, _, _, _, _, _, _, _, rfl, _⟩ := hk 0 (by simp [Ex.kids])
  obtain ⟨va, hva⟩ := kr_atR hk 0 (by simp [Ex.kids])
  obtain ⟨vb, hvb⟩ := kr_atR hk 1 (by simp [Ex.kids])
  have hsh : shw (.bin op a b q) = parX (decide (rk a.op < 6)) (shw a) ++ (32 :: op ++ 32 :: parX (decide (rk b.op < 6)) (shw b)) := by simp [shw, hr, lo]
  have hla : (shw a).length ≤ 1000000 := by rw [hsh, List.length_append] at hl; have := par_geD (decide (rk a.op < 6)) (shw a); omega
  have hlb : (shw b).length ≤ 1000000 := by rw [hsh, List.length_append, List.length_append, List.length_cons, List.length_cons] at hl; have := par_geD (decide (rk b.op < 6)) (shw b); omega
  have hop : op.length ≤ 3 := op_len (by omega)
  have ho1 : op ≠ opNum := fun e => by rw [e] at hr; exact absurd hr (by decide)
  have ho2 : op ≠ opName := fun e => by rw [e] at hr; exact absurd hr (by decide)
  obtain ⟨ta, hta, hta2⟩ := str_of (parX (decide (rk a.op < 6)) (shw a)) 1000002 (par_lenD _ hla)
  obtain ⟨tb, htb, htb2⟩ := str_of (parX (decide (rk b.op < 6)) (shw b)) 1000002 (par_lenD _ hlb)
  change Calls Tryz.prog 36 #[.agg #[.string ⟨op.toArray⟩, .string ⟨([] : List UInt8).toArray⟩, .int .i64 ((0 : Nat) : Int), .slice (some ⟨g, 0, none⟩) 2 cap, .int .i64 (q : Int)]] w _
  have g1 : ((⟨op.toArray⟩ : ByteArray).toList == [110, 117, 109]) = false := bytes_neD ho1
  have g2 : ((⟨op.toArray⟩ : ByteArray).toList == [110, 97, 109, 101]) = false := bytes_neD ho2
  have H1 := Lib.hid (rrank_any ⟨op.toArray⟩ (w.alloc (.cells #[.string ⟨op.toArray⟩, .string ⟨([] : List UInt8).toArray⟩, .int .i64 ((0 : Nat) : Int), .slice (some ⟨g, 0, none⟩) 2 cap, .int .i64 (q : Int)] 70)))
  have e1 : (⟨op.toArray⟩ : ByteArray).data.toList = op := rfl
  rw [e1, hr] at H1
  have hos : (⟨op.toArray⟩ : ByteArray).size ≤ 3 := by rw [← size_list]; exact hop
  have HO := Lib.hid e1
  have HSH := Lib.hid hsh
  have HTA := Lib.hid hta
  have HTB := Lib.hid htb
  have HLA := Lib.hid hla
  have HLB := Lib.hid hlb
  have HIA := Lib.hid ha
  have HIB := Lib.hid hb
  have hba := (Below.refl w.heap.size w).alloc (Nat.le_refl _) (.cells #[.string ⟨op.toArray⟩, .string ⟨([] : List UInt8).toArray⟩, .int .i64 ((0 : Nat) : Int), .slice (some ⟨g, 0, none⟩) 2 cap, .int .i64 (q : Int)] 70)
  have HPL := Lib.hid (show PL2 w (w.alloc (.cells #[.string ⟨op.toArray⟩, .string ⟨([] : List UInt8).toArray⟩, .int .i64 ((0 : Nat) : Int), .slice (some ⟨g, 0, none⟩) 2 cap, .int .i64 (q : Int)] 70)) w.heap.size g ⟨op.toArray⟩ ⟨([] : List UInt8).toArray⟩ cap ((0 : Nat) : Int) (q : Int) va vb a b S from ⟨heap_alloc_new w _, hva.below hba, hvb.below hba, hba⟩)
  clear hH hk hva hvb hsh hta htb hla hlb ha hb hba e1 hl ho1 ho2 hop
  generalize (⟨op.toArray⟩ : ByteArray) = o at *
  generalize (⟨([] : List UInt8).toArray⟩ : ByteArray) = nm at *
  generalize ((0 : Nat) : Int) = n0 at *
  generalize (q : Int) = q0 at *
  go_enter Tryz.func36, Tryz.ntmps36
  go_wp2_with fail
  refine (H1.out).mono ?_
  rintro e w1 ⟨rfl, hb1⟩
  have LK := Lib.hid (HPL.out.below hb1)
  obtain ⟨b0, b1, b2, b3, b4⟩ := LK.out.bx.cells
  have hbl := LK.out.bx.lt
  clear hb1 HPL
  go_wp2_with fail
  have k0 : ¬ 9223372036854775807 < ta.size + 1 := by omega
  have k1 : ¬ 9223372036854775807 < ta.size + 1 + o.size := by omega
  have k2 : ¬ 9223372036854775807 < ta.size + 1 + o.size + 1 := by omega
  have k3 : ¬ 9223372036854775807 < ta.size + 1 + o.size + 1 + tb.size := by omega
  have lk := LK.out.drew
  clear LK b0 b1 b2 b3 b4
  go_region_held3 (fun w' => w'.cell? ⟨w.heap.size, 0, none⟩ = some (.string o) ∧ w'.cell? ⟨w.heap.size, 3, none⟩ = some (.slice (some ⟨g, 0, none⟩) 2 cap) ∧ w'.cell? ⟨g, 0, none⟩ = some (.string va.o) ∧ w'.cell? ⟨g, 1, none⟩ = some (.string va.nm) ∧ w'.cell? ⟨g, 2, none⟩ = some (.int .i64 va.n) ∧ w'.cell? ⟨g, 3, none⟩ = some (.slice va.A va.ll va.cap) ∧ w'.cell? ⟨g, 4, none⟩ = some (.int .i64 va.p) ∧ w'.cell? ⟨g, 5, none⟩ = some (.string vb.o) ∧ w'.cell? ⟨g, 6, none⟩ = some (.string vb.nm) ∧ w'.cell? ⟨g, 7, none⟩ = some (.int .i64 vb.n) ∧ w'.cell? ⟨g, 8, none⟩ = some (.slice vb.A vb.ll vb.cap) ∧ w'.cell? ⟨g, 9, none⟩ = some (.int .i64 vb.p)) (exact lk.get) (first
    | (go_at_call 76; (with_reducible refine (lk.kid1 HIA.out HLA.out 6 6 (by decide) HTA.out).mono ?_); rintro e wA ⟨rfl, lk⟩)
    | (go_at_call 76; (with_reducible refine (lk.kid2 HIB.out HLB.out 6 6 (by decide) HTB.out).mono ?_); rintro e wA ⟨rfl, lk⟩))
  all_goals go_wp2
  all_goals go_ret
  all_goals exact ⟨ret_str (by rw [HSH.out]; simp [HTA.out, HTB.out, HO.out]), lk.w⟩
set_option maxHeartbeats 4000000 in
set_option maxRecDepth 100000 in
theorem pr_6 {op : List UInt8} {a b : Ex} {q : Nat} (hr : rk op = 6) (ha : PrC a) (hb : PrC b) : PrC (.bin op a b q) := by
  intro w S c hH hl
  obtain ⟨A, cap, rfl, hk⟩ := hH.view
  obtain ⟨g, _, _, _, _, _, _, _, rfl, _⟩ := hk 0 (by simp [Ex.kids])
  obtain ⟨va, hva⟩ := kr_atR hk 0 (by simp [Ex.kids])
  obtain ⟨vb, hvb⟩ := kr_atR hk 1 (by simp [Ex.kids])
  have hsh : shw (.bin op a b q) = parX (decide (rk a.op < 6)) (shw a) ++ (32 :: op ++ 32 :: parX (decide (rk b.op < 7)) (shw b)) := by simp [shw, hr, lo]
  have hla : (shw a).length ≤ 1000000 := by rw [hsh, List.length_append] at hl; have := par_geD (decide (rk a.op < 6)) (shw a); omega
  have hlb : (shw b).length ≤ 1000000 := by rw [hsh, List.length_append, List.length_append, List.length_cons, List.length_cons] at hl; have := par_geD (decide (rk b.op < 7)) (shw b); omega
  have hop : op.length ≤ 3 := op_len (by omega)
  have ho1 : op ≠ opNum := fun e => by rw [e] at hr; exact absurd hr (by decide)
  have ho2 : op ≠ opName := fun e => by rw [e] at hr; exact absurd hr (by decide)
  obtain ⟨ta, hta, hta2⟩ := str_of (parX (decide (rk a.op < 6)) (shw a)) 1000002 (par_lenD _ hla)
  obtain ⟨tb, htb, htb2⟩ := str_of (parX (decide (rk b.op < 7)) (shw b)) 1000002 (par_lenD _ hlb)
  change Calls Tryz.prog 36 #[.agg #[.string ⟨op.toArray⟩, .string ⟨([] : List UInt8).toArray⟩, .int .i64 ((0 : Nat) : Int), .slice (some ⟨g, 0, none⟩) 2 cap, .int .i64 (q : Int)]] w _
  have g1 : ((⟨op.toArray⟩ : ByteArray).toList == [110, 117, 109]) = false := bytes_neD ho1
  have g2 : ((⟨op.toArray⟩ : ByteArray).toList == [110, 97, 109, 101]) = false := bytes_neD ho2
  have H1 := Lib.hid (rrank_any ⟨op.toArray⟩ (w.alloc (.cells #[.string ⟨op.toArray⟩, .string ⟨([] : List UInt8).toArray⟩, .int .i64 ((0 : Nat) : Int), .slice (some ⟨g, 0, none⟩) 2 cap, .int .i64 (q : Int)] 70)))
  have e1 : (⟨op.toArray⟩ : ByteArray).data.toList = op := rfl
  rw [e1, hr] at H1
  have hos : (⟨op.toArray⟩ : ByteArray).size ≤ 3 := by rw [← size_list]; exact hop
  have HO := Lib.hid e1
  have HSH := Lib.hid hsh
  have HTA := Lib.hid hta
  have HTB := Lib.hid htb
  have HLA := Lib.hid hla
  have HLB := Lib.hid hlb
  have HIA := Lib.hid ha
  have HIB := Lib.hid hb
  have hba := (Below.refl w.heap.size w).alloc (Nat.le_refl _) (.cells #[.string ⟨op.toArray⟩, .string ⟨([] : List UInt8).toArray⟩, .int .i64 ((0 : Nat) : Int), .slice (some ⟨g, 0, none⟩) 2 cap, .int .i64 (q : Int)] 70)
  have HPL := Lib.hid (show PL2 w (w.alloc (.cells #[.string ⟨op.toArray⟩, .string ⟨([] : List UInt8).toArray⟩, .int .i64 ((0 : Nat) : Int), .slice (some ⟨g, 0, none⟩) 2 cap, .int .i64 (q : Int)] 70)) w.heap.size g ⟨op.toArray⟩ ⟨([] : List UInt8).toArray⟩ cap ((0 : Nat) : Int) (q : Int) va vb a b S from ⟨heap_alloc_new w _, hva.below hba, hvb.below hba, hba⟩)
  clear hH hk hva hvb hsh hta htb hla hlb ha hb hba e1 hl ho1 ho2 hop
  generalize (⟨op.toArray⟩ : ByteArray) = o at *
  generalize (⟨([] : List UInt8).toArray⟩ : ByteArray) = nm at *
  generalize ((0 : Nat) : Int) = n0 at *
  generalize (q : Int) = q0 at *
  go_enter Tryz.func36, Tryz.ntmps36
  go_wp2_with fail
  refine (H1.out).mono ?_
  rintro e w1 ⟨rfl, hb1⟩
  have LK := Lib.hid (HPL.out.below hb1)
  obtain ⟨b0, b1, b2, b3, b4⟩ := LK.out.bx.cells
  have hbl := LK.out.bx.lt
  clear hb1 HPL
  go_wp2_with fail
  have k0 : ¬ 9223372036854775807 < ta.size + 1 := by omega
  have k1 : ¬ 9223372036854775807 < ta.size + 1 + o.size := by omega
  have k2 : ¬ 9223372036854775807 < ta.size + 1 + o.size + 1 := by omega
  have k3 : ¬ 9223372036854775807 < ta.size + 1 + o.size + 1 + tb.size := by omega
  have kw : IntKind.i64.wrap 7 = 7 := by decide
  have lk := LK.out.drew
  clear LK b0 b1 b2 b3 b4
  go_region_held3 (fun w' => w'.cell? ⟨w.heap.size, 0, none⟩ = some (.string o) ∧ w'.cell? ⟨w.heap.size, 3, none⟩ = some (.slice (some ⟨g, 0, none⟩) 2 cap) ∧ w'.cell? ⟨g, 0, none⟩ = some (.string va.o) ∧ w'.cell? ⟨g, 1, none⟩ = some (.string va.nm) ∧ w'.cell? ⟨g, 2, none⟩ = some (.int .i64 va.n) ∧ w'.cell? ⟨g, 3, none⟩ = some (.slice va.A va.ll va.cap) ∧ w'.cell? ⟨g, 4, none⟩ = some (.int .i64 va.p) ∧ w'.cell? ⟨g, 5, none⟩ = some (.string vb.o) ∧ w'.cell? ⟨g, 6, none⟩ = some (.string vb.nm) ∧ w'.cell? ⟨g, 7, none⟩ = some (.int .i64 vb.n) ∧ w'.cell? ⟨g, 8, none⟩ = some (.slice vb.A vb.ll vb.cap) ∧ w'.cell? ⟨g, 9, none⟩ = some (.int .i64 vb.p)) (exact lk.get) (first
    | (go_at_call 76; (with_reducible refine (lk.kid1 HIA.out HLA.out 6 6 (by decide) HTA.out).mono ?_); rintro e wA ⟨rfl, lk⟩)
    | (go_at_call 76; (with_reducible refine (lk.kid2 HIB.out HLB.out 7 7 (by decide) HTB.out).mono ?_); rintro e wA ⟨rfl, lk⟩))
  all_goals go_wp2
  all_goals go_ret
  all_goals exact ⟨ret_str (by rw [HSH.out]; simp [HTA.out, HTB.out, HO.out]), lk.w⟩
set_option maxHeartbeats 4000000 in
set_option maxRecDepth 100000 in
theorem pr_7 {op : List UInt8} {a b : Ex} {q : Nat} (hr : rk op = 7) (ha : PrC a) (hb : PrC b) : PrC (.bin op a b q) := by
  intro w S c hH hl
  obtain ⟨A, cap, rfl, hk⟩ := hH.view
  obtain ⟨g, _, _, _, _, _, _, _, rfl, _⟩ := hk 0 (by simp [Ex.kids])
  obtain ⟨va, hva⟩ := kr_atR hk 0 (by simp [Ex.kids])
  obtain ⟨vb, hvb⟩ := kr_atR hk 1 (by simp [Ex.kids])
  have hsh : shw (.bin op a b q) = parX (decide (rk a.op < 7)) (shw a) ++ (32 :: op ++ 32 :: parX (decide (rk b.op < 8)) (shw b)) := by simp [shw, hr, lo]
  have hla : (shw a).length ≤ 1000000 := by rw [hsh, List.length_append] at hl; have := par_geD (decide (rk a.op < 7)) (shw a); omega
  have hlb : (shw b).length ≤ 1000000 := by rw [hsh, List.length_append, List.length_append, List.length_cons, List.length_cons] at hl; have := par_geD (decide (rk b.op < 8)) (shw b); omega
  have hop : op.length ≤ 3 := op_len (by omega)
  have ho1 : op ≠ opNum := fun e => by rw [e] at hr; exact absurd hr (by decide)
  have ho2 : op ≠ opName := fun e => by rw [e] at hr; exact absurd hr (by decide)
  obtain ⟨ta, hta, hta2⟩ := str_of (parX (decide (rk a.op < 7)) (shw a)) 1000002 (par_lenD _ hla)
  obtain ⟨tb, htb, htb2⟩ := str_of (parX (decide (rk b.op < 8)) (shw b)) 1000002 (par_lenD _ hlb)
  change Calls Tryz.prog 36 #[.agg #[.string ⟨op.toArray⟩, .string ⟨([] : List UInt8).toArray⟩, .int .i64 ((0 : Nat) : Int), .slice (some ⟨g, 0, none⟩) 2 cap, .int .i64 (q : Int)]] w _
  have g1 : ((⟨op.toArray⟩ : ByteArray).toList == [110, 117, 109]) = false := bytes_neD ho1
  have g2 : ((⟨op.toArray⟩ : ByteArray).toList == [110, 97, 109, 101]) = false := bytes_neD ho2
  have H1 := Lib.hid (rrank_any ⟨op.toArray⟩ (w.alloc (.cells #[.string ⟨op.toArray⟩, .string ⟨([] : List UInt8).toArray⟩, .int .i64 ((0 : Nat) : Int), .slice (some ⟨g, 0, none⟩) 2 cap, .int .i64 (q : Int)] 70)))
  have e1 : (⟨op.toArray⟩ : ByteArray).data.toList = op := rfl
  rw [e1, hr] at H1
  have hos : (⟨op.toArray⟩ : ByteArray).size ≤ 3 := by rw [← size_list]; exact hop
  have HO := Lib.hid e1
  have HSH := Lib.hid hsh
  have HTA := Lib.hid hta
  have HTB := Lib.hid htb
  have HLA := Lib.hid hla
  have HLB := Lib.hid hlb
  have HIA := Lib.hid ha
  have HIB := Lib.hid hb
  have hba := (Below.refl w.heap.size w).alloc (Nat.le_refl _) (.cells #[.string ⟨op.toArray⟩, .string ⟨([] : List UInt8).toArray⟩, .int .i64 ((0 : Nat) : Int), .slice (some ⟨g, 0, none⟩) 2 cap, .int .i64 (q : Int)] 70)
  have HPL := Lib.hid (show PL2 w (w.alloc (.cells #[.string ⟨op.toArray⟩, .string ⟨([] : List UInt8).toArray⟩, .int .i64 ((0 : Nat) : Int), .slice (some ⟨g, 0, none⟩) 2 cap, .int .i64 (q : Int)] 70)) w.heap.size g ⟨op.toArray⟩ ⟨([] : List UInt8).toArray⟩ cap ((0 : Nat) : Int) (q : Int) va vb a b S from ⟨heap_alloc_new w _, hva.below hba, hvb.below hba, hba⟩)
  clear hH hk hva hvb hsh hta htb hla hlb ha hb hba e1 hl ho1 ho2 hop
  generalize (⟨op.toArray⟩ : ByteArray) = o at *
  generalize (⟨([] : List UInt8).toArray⟩ : ByteArray) = nm at *
  generalize ((0 : Nat) : Int) = n0 at *
  generalize (q : Int) = q0 at *
  go_enter Tryz.func36, Tryz.ntmps36
  go_wp2_with fail
  refine (H1.out).mono ?_
  rintro e w1 ⟨rfl, hb1⟩
  have LK := Lib.hid (HPL.out.below hb1)
  obtain ⟨b0, b1, b2, b3, b4⟩ := LK.out.bx.cells
  have hbl := LK.out.bx.lt
  clear hb1 HPL
  go_wp2_with fail
  have k0 : ¬ 9223372036854775807 < ta.size + 1 := by omega
  have k1 : ¬ 9223372036854775807 < ta.size + 1 + o.size := by omega
  have k2 : ¬ 9223372036854775807 < ta.size + 1 + o.size + 1 := by omega
  have k3 : ¬ 9223372036854775807 < ta.size + 1 + o.size + 1 + tb.size := by omega
  have kw : IntKind.i64.wrap 8 = 8 := by decide
  have lk := LK.out.drew
  clear LK b0 b1 b2 b3 b4
  go_region_held3 (fun w' => w'.cell? ⟨w.heap.size, 0, none⟩ = some (.string o) ∧ w'.cell? ⟨w.heap.size, 3, none⟩ = some (.slice (some ⟨g, 0, none⟩) 2 cap) ∧ w'.cell? ⟨g, 0, none⟩ = some (.string va.o) ∧ w'.cell? ⟨g, 1, none⟩ = some (.string va.nm) ∧ w'.cell? ⟨g, 2, none⟩ = some (.int .i64 va.n) ∧ w'.cell? ⟨g, 3, none⟩ = some (.slice va.A va.ll va.cap) ∧ w'.cell? ⟨g, 4, none⟩ = some (.int .i64 va.p) ∧ w'.cell? ⟨g, 5, none⟩ = some (.string vb.o) ∧ w'.cell? ⟨g, 6, none⟩ = some (.string vb.nm) ∧ w'.cell? ⟨g, 7, none⟩ = some (.int .i64 vb.n) ∧ w'.cell? ⟨g, 8, none⟩ = some (.slice vb.A vb.ll vb.cap) ∧ w'.cell? ⟨g, 9, none⟩ = some (.int .i64 vb.p)) (exact lk.get) (first
    | (go_at_call 76; (with_reducible refine (lk.kid1 HIA.out HLA.out 7 7 (by decide) HTA.out).mono ?_); rintro e wA ⟨rfl, lk⟩)
    | (go_at_call 76; (with_reducible refine (lk.kid2 HIB.out HLB.out 8 8 (by decide) HTB.out).mono ?_); rintro e wA ⟨rfl, lk⟩))
  all_goals go_wp2
  all_goals go_ret
  all_goals exact ⟨ret_str (by rw [HSH.out]; simp [HTA.out, HTB.out, HO.out]), lk.w⟩
end Go.Proofs.YtddeplbgihcdkaaGreatDoor
