/-
  Lists of a model's parts in memory.
-/
import Derived.Test.YtddeplbgihcdkaaGreatDoorG8
import Derived.Deep.LoopGhost
namespace Go.Proofs.YtddeplbgihcdkaaGreatDoor
open Go.RowKit

/-- Parts one behind the other. -/
def LH {α : Type} (P : α → List Value → Prop) : List α → List Value → Prop
  | [], cs => cs = []
  | a :: xs, cs => ∃ c r, cs = c ++ r ∧ P a c ∧ LH P xs r
section
variable {α : Type} {P Q : α → List Value → Prop}
theorem LH.snoc : ∀ {xs : List α} {cs : List Value} {a : α} {c : List Value}, LH P xs cs → P a c → LH P (xs ++ [a]) (cs ++ c)
  | [], _, a, c, h, ha => by rw [show _ = [] from h]; exact ⟨c, [], by simp, ha, rfl⟩
  | _ :: _, _, _, _, ⟨c0, r, h1, h2, h3⟩, ha => ⟨c0, r ++ _, by rw [h1, List.append_assoc], h2, h3.snoc ha⟩
theorem LH.imp (hi : ∀ a c, P a c → Q a c) : ∀ {xs : List α} {cs : List Value}, LH P xs cs → LH Q xs cs
  | [], _, h => h
  | _ :: _, _, ⟨c0, r, h1, h2, h3⟩ => ⟨c0, r, h1, hi _ _ h2, h3.imp hi⟩
end
def Row {α : Type} (w : World) (b : Nat) (t : TypeId) (sz : Nat) (P : α → List Value → Prop) (xs : List α) (v : Value) : Prop := ∃ cs, w.ownsRow b t sz v xs.length cs ∧ LH P xs cs
theorem own_kt {w w' : World} {b : Nat} {t : TypeId} {sz n : Nat} {v : Value} {cs : List Value} {E : TypeId → Prop} (h : w.ownsRow b t sz v n cs) (hk : Kt b E w w') (he : ¬ E t) : w'.ownsRow b t sz v n cs := by
  refine ⟨h.1, ?_⟩
  rcases h.2 with h | ⟨g, cap, cur, h1, h2, h3, h4⟩
  · exact .inl h
  · exact .inr ⟨g, cap, cur, h1, h2, (hk g cur t h2 h3 he).trans h3, h4⟩
theorem own_le {w : World} {b b' : Nat} {t : TypeId} {sz n : Nat} {v : Value} {cs : List Value} (h : w.ownsRow b t sz v n cs) (hb : b' ≤ b) : w.ownsRow b' t sz v n cs :=
  ⟨h.1, h.2.imp id fun ⟨g, cap, cur, h1, h2, h3⟩ => ⟨g, cap, cur, h1, Nat.le_trans hb h2, h3⟩⟩
theorem own_typ {w : World} {b : Nat} {t : TypeId} {sz n : Nat} {v : Value} {cs : List Value} (h : w.ownsRow b t sz v n cs) : ∀ g, v.ownBlock = some g → b ≤ g ∧ ∃ cur : Array Value, w.heap[g]? = some (.cells cur t (0, 0)) := by
  intro g hg
  rcases h.2 with ⟨rfl, _⟩ | ⟨g', cap, cur, rfl, h2, h3, _⟩
  · simp [Value.ownBlock] at hg
  · have : g' = g := by simpa [Value.ownBlock] using hg
    subst this
    exact ⟨h2, cur, h3⟩
section
variable {α : Type} {w w' : World} {b b' : Nat} {t : TypeId} {sz : Nat} {xs : List α} {v : Value}
theorem Row.keep {P : World → Nat → α → List Value → Prop} {E : TypeId → Prop} (h : Row w b t sz (P w b) xs v) (hk : Kt b E w w') (he : ¬ E t) (hp : ∀ a c, P w b a c → P w' b a c) : Row w' b t sz (P w' b) xs v := by
  obtain ⟨cs, h1, h2⟩ := h
  exact ⟨cs, own_kt h1 hk he, h2.imp hp⟩
theorem Row.mono {P : World → Nat → α → List Value → Prop} (h : Row w b t sz (P w b) xs v) (hb : b' ≤ b) (hp : ∀ a c, P w b a c → P w b' a c) : Row w b' t sz (P w b') xs v := by
  obtain ⟨cs, h1, h2⟩ := h
  exact ⟨cs, own_le h1 hb, h2.imp hp⟩
theorem Row.nil (w : World) (b : Nat) (t : TypeId) (sz : Nat) (P : α → List Value → Prop) : Row w b t sz P [] (.slice none 0 0) := ⟨[], World.ownsRow_nil _ _ _ _, rfl⟩
theorem Row.form {P : α → List Value → Prop} (h : Row w b t sz P xs v) : ∃ A cap, v = .slice A xs.length cap := by
  obtain ⟨cs, h1, _⟩ := h
  rcases row_forms h1 with ⟨rfl, h0⟩ | ⟨g, cap, rfl⟩
  · exact ⟨none, 0, by rw [h0]⟩
  · exact ⟨_, _, rfl⟩
theorem Row.one {P : α → List Value → Prop} {a : α} {c : List Value} (ha : P a c) (hc : c.length = sz) (hb : b ≤ w.heap.size) : Row (w.alloc (.cells c.toArray t)) b t sz P [a] (.slice (some ⟨w.heap.size, 0, none⟩) 1 1) :=
  ⟨c, ⟨by simp [hc], .inr ⟨w.heap.size, 1, c.toArray, rfl, hb, heap_alloc_new w _, Nat.le_refl _, by unfold maxLen; omega, by simp [hc], by simp [← hc]⟩⟩, c, [], by simp, ha, rfl⟩
end
/-- A definition or a setting, a variable, a branch, a command, a module: in memory from b on. -/
def DH (w : World) (b : Nat) (d : DefO) (c : List Value) : Prop := ∃ v : XV, c = [.string ⟨d.nm.toArray⟩, .string v.o, .string v.nm, .int .i64 v.n, .slice v.A v.ll v.cap, .int .i64 v.p, .int .i64 ((d.pos : Nat) : Int)] ∧ XO w b d.x v.c
def VH (w : World) (b : Nat) (d : VarO) (c : List Value) : Prop := ∃ p q r : XV, c = [.string ⟨d.nm.toArray⟩, .bool d.isB, .string p.o, .string p.nm, .int .i64 p.n, .slice p.A p.ll p.cap, .int .i64 p.p, .string q.o, .string q.nm, .int .i64 q.n, .slice q.A q.ll q.cap, .int .i64 q.p, .string r.o, .string r.nm, .int .i64 r.n, .slice r.A r.ll r.cap, .int .i64 r.p, .bool d.has, .int .i64 ((d.pos : Nat) : Int)] ∧ XO w b d.low p.c ∧ XO w b d.high q.c ∧ XO w b d.ini r.c
def BH (w : World) (b : Nat) (d : BrO) (c : List Value) : Prop := ∃ A cap, c = [.int .i64 ((d.wt : Nat) : Int), .slice A d.sets.length cap, .int .i64 ((d.pos : Nat) : Int)] ∧ Row w b 201 7 (DH w b) d.sets (.slice A d.sets.length cap)
def CH (w : World) (b : Nat) (d : CmdO) (c : List Value) : Prop := ∃ (v : XV) (A : Option Addr) (cap : Nat), c = [.string ⟨d.act.toArray⟩, .string v.o, .string v.nm, .int .i64 v.n, .slice v.A v.ll v.cap, .int .i64 v.p, .slice A d.brs.length cap, .int .i64 ((d.pos : Nat) : Int)] ∧ XO w b d.guard v.c ∧ Row w b 158 3 (BH w b) d.brs (.slice A d.brs.length cap)
def MH (w : World) (b : Nat) (d : ModO) (c : List Value) : Prop := ∃ (A : Option Addr) (cap : Nat) (B : Option Addr) (cap' : Nat), c = [.string ⟨d.nm.toArray⟩, .slice A d.vars.length cap, .slice B d.cmds.length cap', .int .i64 ((d.pos : Nat) : Int)] ∧ Row w b 200 19 (VH w b) d.vars (.slice A d.vars.length cap) ∧ Row w b 161 8 (CH w b) d.cmds (.slice B d.cmds.length cap')
section
variable {w w' : World} {b b' : Nat} {E : TypeId → Prop} {c : List Value}
theorem DH.keep {d : DefO} (h : DH w b d c) (hk : Kt b E w w') (e1 : ¬ E 62) : DH w' b d c := by
  obtain ⟨v, h1, h2⟩ := h
  exact ⟨v, h1, h2.keep hk e1⟩
theorem DH.mono {d : DefO} (h : DH w b d c) (hb : b' ≤ b) : DH w b' d c := by
  obtain ⟨v, h1, h2⟩ := h
  exact ⟨v, h1, h2.mono hb⟩
theorem VH.keep {d : VarO} (h : VH w b d c) (hk : Kt b E w w') (e1 : ¬ E 62) : VH w' b d c := by
  obtain ⟨p, q, r, h1, h2, h3, h4⟩ := h
  exact ⟨p, q, r, h1, h2.keep hk e1, h3.keep hk e1, h4.keep hk e1⟩
theorem VH.mono {d : VarO} (h : VH w b d c) (hb : b' ≤ b) : VH w b' d c := by
  obtain ⟨p, q, r, h1, h2, h3, h4⟩ := h
  exact ⟨p, q, r, h1, h2.mono hb, h3.mono hb, h4.mono hb⟩
theorem BH.keep {d : BrO} (h : BH w b d c) (hk : Kt b E w w') (e1 : ¬ E 62) (e2 : ¬ E 201) : BH w' b d c := by
  obtain ⟨A, cap, h1, h2⟩ := h
  exact ⟨A, cap, h1, h2.keep hk e2 (fun _ _ h => h.keep hk e1)⟩
theorem BH.mono {d : BrO} (h : BH w b d c) (hb : b' ≤ b) : BH w b' d c := by
  obtain ⟨A, cap, h1, h2⟩ := h
  exact ⟨A, cap, h1, h2.mono hb (fun _ _ h => h.mono hb)⟩
theorem CH.keep {d : CmdO} (h : CH w b d c) (hk : Kt b E w w') (e1 : ¬ E 62) (e2 : ¬ E 201) (e3 : ¬ E 158) : CH w' b d c := by
  obtain ⟨v, A, cap, h1, h2, h3⟩ := h
  exact ⟨v, A, cap, h1, h2.keep hk e1, h3.keep hk e3 (fun _ _ h => h.keep hk e1 e2)⟩
theorem CH.mono {d : CmdO} (h : CH w b d c) (hb : b' ≤ b) : CH w b' d c := by
  obtain ⟨v, A, cap, h1, h2, h3⟩ := h
  exact ⟨v, A, cap, h1, h2.mono hb, h3.mono hb (fun _ _ h => h.mono hb)⟩
theorem MH.keep {d : ModO} (h : MH w b d c) (hk : Kt b E w w') (e1 : ¬ E 62) (e2 : ¬ E 201) (e3 : ¬ E 158) (e4 : ¬ E 200) (e5 : ¬ E 161) : MH w' b d c := by
  obtain ⟨A, cap, B, cap', h1, h2, h3⟩ := h
  exact ⟨A, cap, B, cap', h1, h2.keep hk e4 (fun _ _ h => h.keep hk e1), h3.keep hk e5 (fun _ _ h => h.keep hk e1 e2 e3)⟩
theorem MH.mono {d : ModO} (h : MH w b d c) (hb : b' ≤ b) : MH w b' d c := by
  obtain ⟨A, cap, B, cap', h1, h2, h3⟩ := h
  exact ⟨A, cap, B, cap', h1, h2.mono hb (fun _ _ h => h.mono hb), h3.mono hb (fun _ _ h => h.mono hb)⟩
end
/-- But for the reader and a row. -/
def X3 (xb rb : Nat) (row : Option Nat) (k : Nat) : Prop := k = xb ∨ k = rb ∨ row = some k
theorem x3_none {xb rb k : Nat} (h : X3 xb rb none k) : X2 xb rb k := by
  rcases h with h | h | h
  · exact .inl h
  · exact .inr h
  · cases h
theorem x3_of {xb rb k : Nat} {row : Option Nat} (h : X2 xb rb k) : X3 xb rb row k := by
  rcases h with h | h
  · exact .inl h
  · exact .inr (.inl h)
theorem Fx.three {xb rb : Nat} {row : Option Nat} {w w' : World} (h : Fx (X2 xb rb) w w') : Fx (X3 xb rb row) w w' := h.wide fun _ _ => x3_of
theorem Fx.grown {X : Nat → Prop} {a w w' : World} {row : Option Nat} (h : Fx X a w) (hg : w.grownBy w' row) (hr : ∀ g, row = some g → X g ∨ a.heap.size ≤ g) : Fx X a w' :=
  ⟨hg.os.trans h.os, hg.tape.trans h.tape, hg.output.trans h.output, Nat.le_trans h.size hg.size, fun k hk hn => (hg.block k (Nat.lt_of_lt_of_le hk h.size) (fun e => by rcases hr k e.symm with hx | hx; exact hn hx; omega)).trans (h.block k hk hn)⟩
/-- What holds in a list's loop. -/
structure LsR {α : Type} (t : TypeId) (sz : Nat) (P : World → Nat → α → List Value → Prop) (p : Tok → Bool) (rd : St → α × St) (xb rb b D b1 : Nat) (row0 : Option Nat) (l0 : List α) (tot : List α × St) (w : World) (acc : List α) (st1 : St) (v : Value) (wr : World) : Prop where
  row : Row wr b1 t sz (P wr b1) (l0 ++ acc) v
  mr : MRd wr xb rb b D st1
  tot : (acc ++ (st1.list p rd).1, (st1.list p rd).2) = tot
  fx : Fx (X3 xb rb row0) w wr
  at_ : v.ownBlock = row0 ∨ ∀ g, v.ownBlock = some g → w.heap.size ≤ g
  len : l0.length + acc.length + st1.len ≤ 200000
def LsRel {α : Type} (t : TypeId) (sz : Nat) (P : World → Nat → α → List Value → Prop) (p : Tok → Bool) (rd : St → α × St) (xb rb b D b1 : Nat) (row0 : Option Nat) (l0 : List α) (tot : List α × St) (w : World) (gk : Nat) (v : Value) (wr : World) : Prop :=
  ∃ acc st1, gk = st1.len ∧ LsR t sz P p rd xb rb b D b1 row0 l0 tot w acc st1 v wr
/-- What a list tells. -/
def LsP {α : Type} (t : TypeId) (sz : Nat) (P : World → Nat → α → List Value → Prop) (xb rb b D b1 : Nat) (row0 : Option Nat) (l0 : List α) (tot : List α × St) (w : World) (e : Ending) (w' : World) : Prop :=
  ∃ A cap, e = .returned (.slice A (l0 ++ tot.1).length cap) ∧ Row w' b1 t sz (P w' b1) (l0 ++ tot.1) (.slice A (l0 ++ tot.1).length cap) ∧ MRd w' xb rb b D tot.2 ∧ Fx (X3 xb rb row0) w w' ∧ ((Value.slice A (l0 ++ tot.1).length cap).ownBlock = row0 ∨ ∀ g, (Value.slice A (l0 ++ tot.1).length cap).ownBlock = some g → w.heap.size ≤ g)
section
variable {α : Type} {t : TypeId} {sz : Nat} {P : World → Nat → α → List Value → Prop} {p : Tok → Bool} {rd : St → α × St} {xb rb b D b1 : Nat} {row0 : Option Nat} {l0 : List α} {tot : List α × St} {w : World} {acc : List α} {st1 : St} {v : Value} {wr : World}
/-- A part has been read and is laid behind the others. -/
theorem LsR.step (hd : Dec p rd) (hp : p st1.hd = true) (ht : ¬ RdT t) (PK : ∀ (w w' : World) (b : Nat) (a : α) (c : List Value), Kt b (fun e => e = t) w w' → P w b a c → P w' b a c) (h : LsR t sz P p rd xb rb b D b1 row0 l0 tot w acc st1 v wr) (hb : b ≤ b1)
    {wA w' : World} {c cs : List Value} {v' : Value} (hO : wA.ownsRow b1 t sz v (l0 ++ acc).length cs) (hL : LH (P wA b1) (l0 ++ acc) cs) (hE : P wA b1 (rd st1).1 c) (hM : MRd wA xb rb b D (rd st1).2) (hF : Fx (X3 xb rb row0) w wA)
    (hO' : w'.ownsRow b1 t sz v' ((l0 ++ acc).length + 1) (cs ++ c)) (hg : (wA.alloc (.cells c.toArray t)).grownBy w' v.ownBlock) (hat : v'.ownBlock = v.ownBlock ∨ v'.ownBlock = some (wA.heap.size + 1)) :
    LsR t sz P p rd xb rb b D b1 row0 l0 tot w (acc ++ [(rd st1).1]) (rd st1).2 v' w' := by
  have hba : Below wA.heap.size wA (wA.alloc (.cells c.toArray t)) := (Below.refl _ _).alloc (Nat.le_refl _) _
  have hO1 := own_kt hO (Kt.below (E := E0) hba) id
  have hkt : Kt b1 (fun e => e = t) wA w' := fun k cs e hk h1 h2 => by
    have h3 := (Kt.below (b := b1) (E := E0) hba) k cs e hk h1 id
    exact (Kt.grown (b := b1) hg (fun g hg' => (own_typ hO1 g hg').2) k cs e hk (h3.trans h1) h2).trans h3
  refine ⟨⟨cs ++ c, by rw [← List.append_assoc, show (l0 ++ acc ++ [(rd st1).1]).length = (l0 ++ acc).length + 1 by simp; omega]; exact hO', ?_⟩, (hM.alloc _).grown hg (fun g hg' => ?_), ?_, (hF.alloc _).grown hg (fun g hg' => ?_), ?_, ?_⟩
  · rw [← List.append_assoc]
    exact (hL.imp (fun a c h => PK _ _ _ _ _ hkt h)).snoc (PK _ _ _ _ _ hkt hE)
  · obtain ⟨h1, cur, h2⟩ := own_typ hO1 g hg'
    exact ⟨Nat.le_trans hb h1, cur, t, h2, ht⟩
  · have := h.tot
    rw [list_go hd hp] at this
    simpa using this
  · rcases h.at_ with h1 | h1
    · exact .inl (.inr (.inr (h1.symm.trans hg')))
    · exact .inr (h1 g hg')
  · rcases hat with h1 | h1
    · rw [h1]; exact h.at_
    · right
      intro g hg'
      rw [h1] at hg'
      injection hg' with hg'
      have := hF.size
      omega
  · have := h.len
    have := (hd st1 hp).1
    simp only [List.length_append, List.length_singleton]
    omega
end
end Go.Proofs.YtddeplbgihcdkaaGreatDoor
