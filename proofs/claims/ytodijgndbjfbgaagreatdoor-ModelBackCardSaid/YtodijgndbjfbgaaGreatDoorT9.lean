/-
  What is read can be told: from what a text's model is like to what Print asks of it. Plain lists, nothing of the program.
-/
import Derived.Test.YtodijgndbjfbgaaGreatDoorT8
namespace Go.Proofs.YtodijgndbjfbgaaGreatDoor
theorem flat_mem {α : Type} {f : α → List UInt8} : ∀ {l : List α} {a : α}, a ∈ l → (f a).length ≤ ((l.map f).flatten).length
  | x :: l, a, h => by
    rw [List.map_cons, List.flatten_cons, List.length_append]
    rcases List.mem_cons.1 h with rfl | h
    · omega
    · have := flat_mem (f := f) h
      omega
theorem flat_cnt {α : Type} {f : α → List UInt8} (hf : ∀ a, 1 ≤ (f a).length) : ∀ l : List α, l.length ≤ ((l.map f).flatten).length
  | [] => Nat.zero_le _
  | x :: l => by
    have h1 := flat_cnt hf l
    have h2 := hf x
    rw [List.map_cons, List.flatten_cons, List.length_append, List.length_cons]
    omega
theorem join_flat (b : List UInt8) : ∀ l : List (List UInt8), l.flatten.length ≤ (joinL b l).length
  | [] => Nat.zero_le _
  | [x] => by simp [joinL]
  | x :: y :: r => by
    have ih := join_flat b (y :: r)
    rw [joinL, List.flatten_cons, List.length_append, List.length_append, List.length_append]
    omega
theorem xok_of {D : Nat} {x : Option Ex} (h : OkO D x) (hl : (shO x).length ≤ 1000000) : XOk x := by
  obtain ⟨e, rfl, h1, _⟩ := h
  exact ⟨e, rfl, h1, hl⟩
theorem dok_of {D : Nat} {w : List UInt8} {d : DefO} (h : OkD D d) (hl : (tlDef w d).length ≤ 1000000) : DOk d := by
  simp only [tlDef, List.length_append, List.length_cons] at hl
  exact ⟨xok_of h.2 (by omega), by omega⟩
theorem lok_of {D : Nat} {d : DefO} (h : OkLb D d) (hl : (tlLab d).length ≤ 1000000) : DOk d := by
  simp only [tlLab, List.length_append, List.length_cons] at hl
  exact ⟨xok_of h.2 (by omega), by omega⟩
theorem sok_of {D : Nat} {d : DefO} (h : OkD D d) (hl : (tlSet d).length ≤ 1000000) : DOk d := by
  simp only [tlSet, List.length_append, List.length_cons] at hl
  exact ⟨xok_of h.2 (by omega), by omega⟩
theorem vok_of {D : Nat} {v : VarO} (h : OkV D v) (hl : (tlVar v).length ≤ 1000000) : VOk v := by
  simp only [tlVar, List.length_append] at hl
  refine ⟨by omega, fun hB => ?_, fun hH => ?_⟩
  · rcases h.vl with ⟨h1, _⟩ | ⟨_, h1, h2⟩
    · rw [hB] at h1; cases h1
    · have hv : (tlVal v).length ≤ 1000000 := by omega
      unfold tlVal at hv
      rw [if_neg (by simp [hB])] at hv
      simp only [List.length_append, List.length_cons] at hv
      exact ⟨xok_of h1 (by omega), xok_of h2 (by omega)⟩
  · rcases h.ini with ⟨_, h1⟩ | ⟨h1, _⟩
    · rw [if_pos hH] at hl
      simp only [List.length_append, List.length_cons] at hl
      exact xok_of h1 (by omega)
    · rw [hH] at h1; cases h1
theorem tlSet_ge (d : DefO) : 1 ≤ (tlSet d).length := by simp [tlSet]
theorem tlBr_ge (d : BrO) : 1 ≤ (tlBr d).length := by
  simp only [tlBr, List.length_append, List.length_cons]
  omega
theorem tlVar_ge (d : VarO) : 1 ≤ (tlVar d).length := by
  simp only [tlVar, List.length_append, List.length_cons]
  omega
theorem tlCmd_ge (d : CmdO) : 1 ≤ (tlCmd d).length := by
  simp only [tlCmd, List.length_append, List.length_cons]
  omega
theorem tlMod_ge (d : ModO) : 1 ≤ (tlMod d).length := by
  simp only [tlMod, List.length_append, List.length_cons]
  omega
theorem tlDef_ge (w : List UInt8) (d : DefO) : 1 ≤ (tlDef w d).length := by
  simp only [tlDef, List.length_append, List.length_cons]
  omega
theorem tlLab_ge (d : DefO) : 1 ≤ (tlLab d).length := by
  simp only [tlLab, List.length_append, List.length_cons]
  omega
theorem bok_of {D : Nat} {b : BrO} (h : OkB D b) (hl : (tlBr b).length ≤ 1000000) : BOk b := by
  have h0 := hl
  rw [tlBr_eq] at h0
  simp only [List.length_append] at h0
  cases hs : b.sets with
  | nil => exact ⟨h.wt.2, fun s hs' => by rw [hs] at hs'; exact absurd hs' (by simp), hl, by rw [hs]; simp⟩
  | cons s0 sr =>
    have h1 : tlSets b.sets = joinL [32, 38, 32] (b.sets.map tlSet) := by unfold tlSets; rw [if_neg (by rw [hs]; simp)]
    have h2 := join_flat [32, 38, 32] (b.sets.map tlSet)
    rw [h1] at h0
    have h3 := flat_cnt tlSet_ge b.sets
    refine ⟨h.wt.2, fun s hs' => ?_, hl, by omega⟩
    have h4 := flat_mem (f := tlSet) hs'
    exact sok_of (h.ss s hs') (by omega)
theorem cok_of {D : Nat} {c : CmdO} (h : OkC D c) (hl : (tlCmd c).length ≤ 1000000) : COk c := by
  have h0 := hl
  simp only [tlCmd, List.length_append, List.length_cons] at h0
  have h2 := join_flat [32, 43, 32] (c.brs.map tlBr)
  have h3 := flat_cnt tlBr_ge c.brs
  refine ⟨by omega, xok_of h.gd (by omega), fun b hb => ?_, hl, by omega⟩
  have h4 := flat_mem (f := tlBr) hb
  exact bok_of (h.bs b hb) (by omega)
theorem mok_of {D : Nat} {m : ModO} (h : OkMo D m) (hl : (tlMod m).length ≤ 1000000) : MOk m := by
  have h0 := hl
  simp only [tlMod, List.length_append, List.length_cons] at h0
  have h3 := flat_cnt tlVar_ge m.vars
  have h4 := flat_cnt tlCmd_ge m.cmds
  refine ⟨by omega, fun v hv => ?_, fun c hc => ?_, hl, by omega, by omega⟩
  · have h5 := flat_mem (f := tlVar) hv
    exact vok_of (h.vs v hv) (by omega)
  · have h5 := flat_mem (f := tlCmd) hc
    exact cok_of (h.cs c hc) (by omega)
theorem mdok_of {D : Nat} {m : MdlO} (h : OkM D m) (hl : (tlM m).length ≤ 1000000) : MdOk m := by
  have h0 := hl
  simp only [tlM, List.length_append, List.length_cons] at h0
  have h1 := flat_cnt (tlDef_ge wConst) m.consts
  have h2 := flat_cnt (tlDef_ge wFormula) m.formulas
  have h3 := flat_cnt tlLab_ge m.labels
  have h4 := flat_cnt tlMod_ge m.mods
  refine ⟨fun d hd => ?_, fun d hd => ?_, fun d hd => ?_, fun d hd => ?_, hl, by omega, by omega, by omega, by omega⟩
  · have h5 := flat_mem (f := tlDef wConst) hd
    exact dok_of (w := wConst) (h.cs d hd) (by omega)
  · have h5 := flat_mem (f := tlDef wFormula) hd
    exact dok_of (w := wFormula) (h.fs d hd) (by omega)
  · have h5 := flat_mem (f := tlLab) hd
    exact lok_of (h.ls d hd) (by omega)
  · have h5 := flat_mem (f := tlMod) hd
    exact mok_of (h.ms d hd) (by omega)
end Go.Proofs.YtodijgndbjfbgaaGreatDoor
