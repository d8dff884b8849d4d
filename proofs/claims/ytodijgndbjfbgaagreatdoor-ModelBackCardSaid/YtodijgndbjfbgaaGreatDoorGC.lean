/-
  Lists of a model's parts in memory. Whether another part of a list comes: walked. The settings of a branch, walked. A branch, walked.
-/
import Derived.Test.YtodijgndbjfbgaaGreatDoorGB
import Derived.Deep.LoopGhost
import Derived.Deep.AppendLies
namespace Go.Proofs.YtodijgndbjfbgaaGreatDoor
section
open Go.RowKit

/-- Parts one behind the other. -/
def LH {α : Type} (P : α → List Value → Prop) : List α → List Value → Prop
  | [], cs => cs = []
  | a :: xs, cs => ∃ c r, cs = c ++ r ∧ P a c ∧ LH P xs r
section
variable {α : Type} {P Q : α → List Value → Prop}
theorem LH.snoc : ∀ {xs : List α} {cs : List Value} {a : α} {c : List Value}, LH P xs cs → P a c → LH P (xs ++ [a]) (cs ++ c)
  | [], _, a, c, h, ha => by rw [show _ = [] from h]; exact ⟨c, [], by simp, ha, rfl⟩
  | _ :: _, _, _, _, ⟨c0, r, h1, h2, h3⟩, ha => ⟨c0, r ++ _, by rw [h1, List.append_assoc], h2, h3.snoc ha⟩
theorem LH.imp (hi : ∀ a c, P a c → Q a c) : ∀ {xs : List α} {cs : List Value}, LH P xs cs → LH Q xs cs
  | [], _, h => h
  | _ :: _, _, ⟨c0, r, h1, h2, h3⟩ => ⟨c0, r, h1, hi _ _ h2, h3.imp hi⟩
end
def Row {α : Type} (w : World) (b : Nat) (t : TypeId) (sz : Nat) (P : α → List Value → Prop) (xs : List α) (v : Value) : Prop := ∃ cs, w.ownsRow b t sz v xs.length cs ∧ LH P xs cs
theorem own_kt {w w' : World} {b : Nat} {t : TypeId} {sz n : Nat} {v : Value} {cs : List Value} {E : TypeId → Prop} (h : w.ownsRow b t sz v n cs) (hk : Kt b E w w') (he : ¬ E t) : w'.ownsRow b t sz v n cs := by
  refine ⟨h.1, ?_⟩
  rcases h.2 with h | ⟨g, cap, cur, h1, h2, h3, h4⟩
  · exact .inl h
  · exact .inr ⟨g, cap, cur, h1, h2, (hk g cur t h2 h3 he).trans h3, h4⟩
theorem own_le {w : World} {b b' : Nat} {t : TypeId} {sz n : Nat} {v : Value} {cs : List Value} (h : w.ownsRow b t sz v n cs) (hb : b' ≤ b) : w.ownsRow b' t sz v n cs :=
  ⟨h.1, h.2.imp id fun ⟨g, cap, cur, h1, h2, h3⟩ => ⟨g, cap, cur, h1, Nat.le_trans hb h2, h3⟩⟩
theorem own_typ {w : World} {b : Nat} {t : TypeId} {sz n : Nat} {v : Value} {cs : List Value} (h : w.ownsRow b t sz v n cs) : ∀ g, v.ownBlock = some g → b ≤ g ∧ ∃ cur : Array Value, w.heap[g]? = some (.cells cur t (0, 0)) := by
  intro g hg
  rcases h.2 with ⟨rfl, _⟩ | ⟨g', cap, cur, rfl, h2, h3, _⟩
  · simp [Value.ownBlock] at hg
  · have : g' = g := by simpa [Value.ownBlock] using hg
    subst this
    exact ⟨h2, cur, h3⟩
section
variable {α : Type} {w w' : World} {b b' : Nat} {t : TypeId} {sz : Nat} {xs : List α} {v : Value}
theorem Row.keep {P : World → Nat → α → List Value → Prop} {E : TypeId → Prop} (h : Row w b t sz (P w b) xs v) (hk : Kt b E w w') (he : ¬ E t) (hp : ∀ a c, P w b a c → P w' b a c) : Row w' b t sz (P w' b) xs v := by
  obtain ⟨cs, h1, h2⟩ := h
  exact ⟨cs, own_kt h1 hk he, h2.imp hp⟩
theorem Row.mono {P : World → Nat → α → List Value → Prop} (h : Row w b t sz (P w b) xs v) (hb : b' ≤ b) (hp : ∀ a c, P w b a c → P w b' a c) : Row w b' t sz (P w b') xs v := by
  obtain ⟨cs, h1, h2⟩ := h
  exact ⟨cs, own_le h1 hb, h2.imp hp⟩
theorem Row.nil (w : World) (b : Nat) (t : TypeId) (sz : Nat) (P : α → List Value → Prop) : Row w b t sz P [] (.slice none 0 0) := ⟨[], World.ownsRow_nil _ _ _ _, rfl⟩
theorem Row.form {P : α → List Value → Prop} (h : Row w b t sz P xs v) : ∃ A cap, v = .slice A xs.length cap := by
  obtain ⟨cs, h1, _⟩ := h
  rcases row_forms h1 with ⟨rfl, h0⟩ | ⟨g, cap, rfl⟩
  · exact ⟨none, 0, by rw [h0]⟩
  · exact ⟨_, _, rfl⟩
theorem Row.one {P : α → List Value → Prop} {a : α} {c : List Value} (ha : P a c) (hc : c.length = sz) (hb : b ≤ w.heap.size) : Row (w.alloc (.cells c.toArray t)) b t sz P [a] (.slice (some ⟨w.heap.size, 0, none⟩) 1 1) :=
  ⟨c, ⟨by simp [hc], .inr ⟨w.heap.size, 1, c.toArray, rfl, hb, heap_alloc_new w _, Nat.le_refl _, by unfold maxLen; omega, by simp [hc], by simp [← hc]⟩⟩, c, [], by simp, ha, rfl⟩
end
/-- A definition or a setting, a variable, a branch, a command, a module: in memory from b on. -/
def DH (w : World) (b : Nat) (d : DefO) (c : List Value) : Prop := ∃ v : XV, c = [.string ⟨d.nm.toArray⟩, .string v.o, .string v.nm, .int .i64 v.n, .slice v.A v.ll v.cap, .int .i64 v.p, .int .i64 ((d.pos : Nat) : Int)] ∧ XO w b d.x v.c
def VH (w : World) (b : Nat) (d : VarO) (c : List Value) : Prop := ∃ p q r : XV, c = [.string ⟨d.nm.toArray⟩, .bool d.isB, .string p.o, .string p.nm, .int .i64 p.n, .slice p.A p.ll p.cap, .int .i64 p.p, .string q.o, .string q.nm, .int .i64 q.n, .slice q.A q.ll q.cap, .int .i64 q.p, .string r.o, .string r.nm, .int .i64 r.n, .slice r.A r.ll r.cap, .int .i64 r.p, .bool d.has, .int .i64 ((d.pos : Nat) : Int)] ∧ XO w b d.low p.c ∧ XO w b d.high q.c ∧ XO w b d.ini r.c
def BH (w : World) (b : Nat) (d : BrO) (c : List Value) : Prop := ∃ A cap, c = [.int .i64 ((d.wt : Nat) : Int), .slice A d.sets.length cap, .int .i64 ((d.pos : Nat) : Int)] ∧ Row w b 115 7 (DH w b) d.sets (.slice A d.sets.length cap)
def CH (w : World) (b : Nat) (d : CmdO) (c : List Value) : Prop := ∃ (v : XV) (A : Option Addr) (cap : Nat), c = [.string ⟨d.act.toArray⟩, .string v.o, .string v.nm, .int .i64 v.n, .slice v.A v.ll v.cap, .int .i64 v.p, .slice A d.brs.length cap, .int .i64 ((d.pos : Nat) : Int)] ∧ XO w b d.guard v.c ∧ Row w b 54 3 (BH w b) d.brs (.slice A d.brs.length cap)
def MH (w : World) (b : Nat) (d : ModO) (c : List Value) : Prop := ∃ (A : Option Addr) (cap : Nat) (B : Option Addr) (cap' : Nat), c = [.string ⟨d.nm.toArray⟩, .slice A d.vars.length cap, .slice B d.cmds.length cap', .int .i64 ((d.pos : Nat) : Int)] ∧ Row w b 112 19 (VH w b) d.vars (.slice A d.vars.length cap) ∧ Row w b 60 8 (CH w b) d.cmds (.slice B d.cmds.length cap')
section
variable {w w' : World} {b b' : Nat} {E : TypeId → Prop} {c : List Value}
theorem DH.keep {d : DefO} (h : DH w b d c) (hk : Kt b E w w') (e1 : ¬ E 57) : DH w' b d c := by
  obtain ⟨v, h1, h2⟩ := h
  exact ⟨v, h1, h2.keep hk e1⟩
theorem DH.mono {d : DefO} (h : DH w b d c) (hb : b' ≤ b) : DH w b' d c := by
  obtain ⟨v, h1, h2⟩ := h
  exact ⟨v, h1, h2.mono hb⟩
theorem VH.keep {d : VarO} (h : VH w b d c) (hk : Kt b E w w') (e1 : ¬ E 57) : VH w' b d c := by
  obtain ⟨p, q, r, h1, h2, h3, h4⟩ := h
  exact ⟨p, q, r, h1, h2.keep hk e1, h3.keep hk e1, h4.keep hk e1⟩
theorem VH.mono {d : VarO} (h : VH w b d c) (hb : b' ≤ b) : VH w b' d c := by
  obtain ⟨p, q, r, h1, h2, h3, h4⟩ := h
  exact ⟨p, q, r, h1, h2.mono hb, h3.mono hb, h4.mono hb⟩
theorem BH.keep {d : BrO} (h : BH w b d c) (hk : Kt b E w w') (e1 : ¬ E 57) (e2 : ¬ E 115) : BH w' b d c := by
  obtain ⟨A, cap, h1, h2⟩ := h
  exact ⟨A, cap, h1, h2.keep hk e2 (fun _ _ h => h.keep hk e1)⟩
theorem BH.mono {d : BrO} (h : BH w b d c) (hb : b' ≤ b) : BH w b' d c := by
  obtain ⟨A, cap, h1, h2⟩ := h
  exact ⟨A, cap, h1, h2.mono hb (fun _ _ h => h.mono hb)⟩
theorem CH.keep {d : CmdO} (h : CH w b d c) (hk : Kt b E w w') (e1 : ¬ E 57) (e2 : ¬ E 115) (e3 : ¬ E 54) : CH w' b d c := by
  obtain ⟨v, A, cap, h1, h2, h3⟩ := h
  exact ⟨v, A, cap, h1, h2.keep hk e1, h3.keep hk e3 (fun _ _ h => h.keep hk e1 e2)⟩
theorem CH.mono {d : CmdO} (h : CH w b d c) (hb : b' ≤ b) : CH w b' d c := by
  obtain ⟨v, A, cap, h1, h2, h3⟩ := h
  exact ⟨v, A, cap, h1, h2.mono hb, h3.mono hb (fun _ _ h => h.mono hb)⟩
theorem MH.keep {d : ModO} (h : MH w b d c) (hk : Kt b E w w') (e1 : ¬ E 57) (e2 : ¬ E 115) (e3 : ¬ E 54) (e4 : ¬ E 112) (e5 : ¬ E 60) : MH w' b d c := by
  obtain ⟨A, cap, B, cap', h1, h2, h3⟩ := h
  exact ⟨A, cap, B, cap', h1, h2.keep hk e4 (fun _ _ h => h.keep hk e1), h3.keep hk e5 (fun _ _ h => h.keep hk e1 e2 e3)⟩
theorem MH.mono {d : ModO} (h : MH w b d c) (hb : b' ≤ b) : MH w b' d c := by
  obtain ⟨A, cap, B, cap', h1, h2, h3⟩ := h
  exact ⟨A, cap, B, cap', h1, h2.mono hb (fun _ _ h => h.mono hb), h3.mono hb (fun _ _ h => h.mono hb)⟩
end
/-- But for the reader and a row. -/
def X3 (xb rb : Nat) (row : Option Nat) (k : Nat) : Prop := k = xb ∨ k = rb ∨ row = some k
theorem x3_none {xb rb k : Nat} (h : X3 xb rb none k) : X2 xb rb k := by
  rcases h with h | h | h
  · exact .inl h
  · exact .inr h
  · cases h
theorem x3_of {xb rb k : Nat} {row : Option Nat} (h : X2 xb rb k) : X3 xb rb row k := by
  rcases h with h | h
  · exact .inl h
  · exact .inr (.inl h)
theorem Fx.three {xb rb : Nat} {row : Option Nat} {w w' : World} (h : Fx (X2 xb rb) w w') : Fx (X3 xb rb row) w w' := h.wide fun _ _ => x3_of
theorem Fx.grown {X : Nat → Prop} {a w w' : World} {row : Option Nat} (h : Fx X a w) (hg : w.grownBy w' row) (hr : ∀ g, row = some g → X g ∨ a.heap.size ≤ g) : Fx X a w' :=
  ⟨hg.os.trans h.os, hg.tape.trans h.tape, hg.output.trans h.output, Nat.le_trans h.size hg.size, fun k hk hn => (hg.block k (Nat.lt_of_lt_of_le hk h.size) (fun e => by rcases hr k e.symm with hx | hx; exact hn hx; omega)).trans (h.block k hk hn)⟩
/-- What holds in a list's loop. -/
structure LsR {α : Type} (t : TypeId) (sz : Nat) (P : World → Nat → α → List Value → Prop) (p : Tok → Bool) (rd : St → α × St) (xb rb b D b1 : Nat) (row0 : Option Nat) (l0 : List α) (tot : List α × St) (w : World) (acc : List α) (st1 : St) (v : Value) (wr : World) : Prop where
  row : Row wr b1 t sz (P wr b1) (l0 ++ acc) v
  mr : MRd wr xb rb b D st1
  tot : (acc ++ (st1.list p rd).1, (st1.list p rd).2) = tot
  fx : Fx (X3 xb rb row0) w wr
  at_ : v.ownBlock = row0 ∨ ∀ g, v.ownBlock = some g → w.heap.size ≤ g
  len : l0.length + acc.length + st1.len ≤ 200000
def LsRel {α : Type} (t : TypeId) (sz : Nat) (P : World → Nat → α → List Value → Prop) (p : Tok → Bool) (rd : St → α × St) (xb rb b D b1 : Nat) (row0 : Option Nat) (l0 : List α) (tot : List α × St) (w : World) (gk : Nat) (v : Value) (wr : World) : Prop :=
  ∃ acc st1, gk = st1.len ∧ LsR t sz P p rd xb rb b D b1 row0 l0 tot w acc st1 v wr
/-- What a list tells. -/
def LsP {α : Type} (t : TypeId) (sz : Nat) (P : World → Nat → α → List Value → Prop) (xb rb b D b1 : Nat) (row0 : Option Nat) (l0 : List α) (tot : List α × St) (w : World) (e : Ending) (w' : World) : Prop :=
  ∃ A cap, e = .returned (.slice A (l0 ++ tot.1).length cap) ∧ Row w' b1 t sz (P w' b1) (l0 ++ tot.1) (.slice A (l0 ++ tot.1).length cap) ∧ MRd w' xb rb b D tot.2 ∧ Fx (X3 xb rb row0) w w' ∧ ((Value.slice A (l0 ++ tot.1).length cap).ownBlock = row0 ∨ ∀ g, (Value.slice A (l0 ++ tot.1).length cap).ownBlock = some g → w.heap.size ≤ g)
section
variable {α : Type} {t : TypeId} {sz : Nat} {P : World → Nat → α → List Value → Prop} {p : Tok → Bool} {rd : St → α × St} {xb rb b D b1 : Nat} {row0 : Option Nat} {l0 : List α} {tot : List α × St} {w : World} {acc : List α} {st1 : St} {v : Value} {wr : World}
/-- A part has been read and is laid behind the others. -/
theorem LsR.step (hd : Dec p rd) (hp : p st1.hd = true) (ht : ¬ RdT t) (PK : ∀ (w w' : World) (b : Nat) (a : α) (c : List Value), Kt b (fun e => e = t) w w' → P w b a c → P w' b a c) (h : LsR t sz P p rd xb rb b D b1 row0 l0 tot w acc st1 v wr) (hb : b ≤ b1)
    {wA w' : World} {c cs : List Value} {v' : Value} (hO : wA.ownsRow b1 t sz v (l0 ++ acc).length cs) (hL : LH (P wA b1) (l0 ++ acc) cs) (hE : P wA b1 (rd st1).1 c) (hM : MRd wA xb rb b D (rd st1).2) (hF : Fx (X3 xb rb row0) w wA)
    (hO' : w'.ownsRow b1 t sz v' ((l0 ++ acc).length + 1) (cs ++ c)) (hg : (wA.alloc (.cells c.toArray t)).grownBy w' v.ownBlock) (hat : v'.ownBlock = v.ownBlock ∨ v'.ownBlock = some (wA.heap.size + 1)) :
    LsR t sz P p rd xb rb b D b1 row0 l0 tot w (acc ++ [(rd st1).1]) (rd st1).2 v' w' := by
  have hba : Below wA.heap.size wA (wA.alloc (.cells c.toArray t)) := (Below.refl _ _).alloc (Nat.le_refl _) _
  have hO1 := own_kt hO (Kt.below (E := E0) hba) id
  have hkt : Kt b1 (fun e => e = t) wA w' := fun k cs e hk h1 h2 => by
    have h3 := (Kt.below (b := b1) (E := E0) hba) k cs e hk h1 id
    exact (Kt.grown (b := b1) hg (fun g hg' => (own_typ hO1 g hg').2) k cs e hk (h3.trans h1) h2).trans h3
  refine ⟨⟨cs ++ c, by rw [← List.append_assoc, show (l0 ++ acc ++ [(rd st1).1]).length = (l0 ++ acc).length + 1 by simp; omega]; exact hO', ?_⟩, (hM.alloc _).grown hg (fun g hg' => ?_), ?_, (hF.alloc _).grown hg (fun g hg' => ?_), ?_, ?_⟩
  · rw [← List.append_assoc]
    exact (hL.imp (fun a c h => PK _ _ _ _ _ hkt h)).snoc (PK _ _ _ _ _ hkt hE)
  · obtain ⟨h1, cur, h2⟩ := own_typ hO1 g hg'
    exact ⟨Nat.le_trans hb h1, cur, t, h2, ht⟩
  · have := h.tot
    rw [list_go hd hp] at this
    simpa using this
  · rcases h.at_ with h1 | h1
    · exact .inl (.inr (.inr (h1.symm.trans hg')))
    · exact .inr (h1 g hg')
  · rcases hat with h1 | h1
    · rw [h1]; exact h.at_
    · right
      intro g hg'
      rw [h1] at hg'
      injection hg' with hg'
      have := hF.size
      omega
  · have := h.len
    have := (hd st1 hp).1
    simp only [List.length_append, List.length_singleton]
    omega
end
end
section
open Go.RowKit

section
variable {xb rb b D : Nat} {st : St}
def CapS (w : World) (xb rb p q : Nat) (x : ByteArray) : Prop := w.cell? ⟨p, 0, none⟩ = some (.pointer (some ⟨xb, 0, none⟩)) ∧ w.cell? ⟨q, 0, none⟩ = some (.string x) ∧ ¬ X2 xb rb p ∧ ¬ X2 xb rb q
theorem CapS.fx {w w' : World} {p q : Nat} {x : ByteArray} (h : CapS w xb rb p q x) (hf : Fx (X2 xb rb) w w') : CapS w' xb rb p q x :=
  ⟨(World.cell?_of_block (w := w) (hf.block p (World.block_lt_of_cell? w _ h.1) h.2.2.1)).trans h.1, (World.cell?_of_block (w := w) (hf.block q (World.block_lt_of_cell? w _ h.2.1) h.2.2.2)).trans h.2.1, h.2.2.1, h.2.2.2⟩
theorem tl_ptr (st : St) (rb : Nat) : st.tl.ptr rb = st.ptr rb := by cases st <;> rfl
set_option maxHeartbeats 1000000 in
theorem mskipc_yes (w : World) (h : MRd w xb rb b D st) {p q : Nat} (x : ByteArray) (hc : CapS w xb rb p q x) (hi : isT st.hd x.data.toList = true) :
    Calls Tryz.prog 103 #[.pointer (some ⟨p, 0, none⟩), .pointer (some ⟨q, 0, none⟩)] w fun e w' => e = .returned (.bool true) ∧ MRd w' xb rb b D st.tl ∧ Fx (X2 xb rb) w w' := by
  have hx := h.ltx
  obtain ⟨hp, hq, _, _⟩ := id hc
  have hpl := World.block_lt_of_cell? w _ hp
  have hql := World.block_lt_of_cell? w _ hq
  have c0 := h.c0
  have HS := Lib.hid (h.drew.skip_yes x hi)
  have HC := Lib.hid (fun (wA : World) (hf : Fx (X2 xb rb) w.drew wA) => (show CapS w.drew xb rb p q x from hc).fx hf)
  clear h hi hc
  go_enter Tryz.func103, Tryz.ntmps103
  go_wp2_with fail
  go_region_held3 (fun w' => w'.cell? ⟨p, 0, none⟩ = some (.pointer (some ⟨xb, 0, none⟩)) ∧ w'.cell? ⟨q, 0, none⟩ = some (.string x) ∧ w'.cell? ⟨xb, 0, none⟩ = some (.pointer (st.ptr rb))) (first | with_reducible exact lk | go_keep) (first
    | (go_at_call 101; (with_reducible refine (HS.out).mono ?_); rintro e wA ⟨rfl, hM, hF⟩; have lk := HC.out wA hF; have lk := And.intro lk.1 (And.intro lk.2.1 (hM.c0.trans (by rw [tl_ptr])))))
  all_goals go_wp2
  all_goals go_ret
  all_goals exact ⟨rfl, hM, (Fx.of (Below.refl _ _).drew).trans hF⟩
set_option maxHeartbeats 1000000 in
theorem mskipc_no (w : World) (h : MRd w xb rb b D st) {p q : Nat} (x : ByteArray) (hc : CapS w xb rb p q x) (hi : isT st.hd x.data.toList = false) :
    Calls Tryz.prog 103 #[.pointer (some ⟨p, 0, none⟩), .pointer (some ⟨q, 0, none⟩)] w fun e w' => e = .returned (.bool false) ∧ Below w.heap.size w w' := by
  have hx := h.ltx
  obtain ⟨hp, hq, _, _⟩ := hc
  have hpl := World.block_lt_of_cell? w _ hp
  have hql := World.block_lt_of_cell? w _ hq
  have c0 := h.c0
  have HS := Lib.hid (h.drew.skip_no x hi)
  clear h hi
  go_enter Tryz.func103, Tryz.ntmps103
  go_wp2_with fail
  go_region_held3 (fun w' => w'.cell? ⟨p, 0, none⟩ = some (.pointer (some ⟨xb, 0, none⟩)) ∧ w'.cell? ⟨q, 0, none⟩ = some (.string x) ∧ w'.cell? ⟨xb, 0, none⟩ = some (.pointer (st.ptr rb))) (first | with_reducible exact lk | go_keep) (first
    | (go_at_call 101; (with_reducible refine (HS.out).mono ?_); rintro e wA ⟨rfl, hF⟩; have lk := And.intro ((hF.cell hpl).trans hp) (And.intro ((hF.cell hql).trans hq) ((hF.cell hx).trans c0))))
  all_goals go_wp2
  all_goals go_ret
  all_goals exact ⟨rfl, (Below.refl w.heap.size w).drew.trans hF⟩
theorem mskips_any (w : World) (h : MRd w xb rb b D st) (x : ByteArray) : Calls Tryz.prog 79 #[.pointer (some ⟨xb, 0, none⟩), .string x] w fun e w' => ∃ p q, e = .returned (.func (.func 103) #[] #[.pointer (some ⟨p, 0, none⟩), .pointer (some ⟨q, 0, none⟩)]) ∧ CapS w' xb rb p q x ∧ w.heap.size ≤ p ∧ w.heap.size ≤ q ∧ p < w'.heap.size ∧ q < w'.heap.size ∧ Below w.heap.size w w' := by
  have HN := Lib.hid h.nx
  clear h
  go_enter Tryz.func79, Tryz.ntmps79
  go_wp2
  go_ret
  exact ⟨w.heap.size, w.heap.size + 1, rfl, ⟨by simp, by simp, HN.out _ (Nat.le_refl _), HN.out _ (by omega)⟩, Nat.le_refl _, by omega, by simp; omega, by simp, ((Below.refl _ _).alloc (Nat.le_refl _) _).alloc (by simp) _⟩
theorem miscom_any (w : World) (h : MRd w xb rb b D st) : Calls Tryz.prog 111 #[.pointer (some ⟨xb, 0, none⟩)] w fun e w' => e = .returned (.bool (isT st.hd [91])) ∧ Below w.heap.size w w' := by
  have hx := h.ltx
  have c0 := h.c0
  have HI := Lib.hid (h.is_ ⟨#[91]⟩)
  clear h
  go_enter Tryz.func111, Tryz.ntmps111
  go_wp2_with fail
  with_reducible refine (HI.out).mono ?_
  rintro e w1 ⟨rfl, hb⟩
  go_wp2
  go_ret
  exact ⟨rfl, hb⟩
end
end
section
open Go.RowKit

section
variable {xb rb b D : Nat} {st : St}
theorem MRd.len {w : World} (h : MRd w xb rb b D st) : st.len ≤ 65537 := by
  cases st with
  | bad c p => exact Nat.zero_le _
  | good us =>
    have hT : TR w rb us := h.tr
    obtain ⟨ts, k, h1, g, cap, _, _, _, q4⟩ := hT.rd
    show us.length ≤ 65537
    rw [h1, List.length_drop]
    omega
theorem Bx.cell_add {w : World} {q : Nat} {t : TypeId} {cs : List Value} (h : Bx w q t cs) {j : Nat} {u : Value} (hj : cs[j]? = some u) : w.cell? ((⟨q, 0, none⟩ : Addr).add j) = some u := by
  have e : (⟨q, 0, none⟩ : Addr).add j = ⟨q, j, none⟩ := by
    unfold Addr.add
    by_cases h0 : j = 0 <;> simp [h0]
  rw [e, h.cell, hj]
theorem CapS.fx3 {w w' : World} {p q : Nat} {x : ByteArray} {row : Option Nat} (h : CapS w xb rb p q x) (hf : Fx (X3 xb rb row) w w') (hr : row ≠ some p ∧ row ≠ some q) : CapS w' xb rb p q x := by
  have n1 : ¬ X3 xb rb row p := fun hx => by
    rcases hx with hx | hx | hx
    · exact h.2.2.1 (.inl hx)
    · exact h.2.2.1 (.inr hx)
    · exact hr.1 hx
  have n2 : ¬ X3 xb rb row q := fun hx => by
    rcases hx with hx | hx | hx
    · exact h.2.2.2 (.inl hx)
    · exact h.2.2.2 (.inr hx)
    · exact hr.2 hx
  exact ⟨(World.cell?_of_block (w := w) (hf.block p (World.block_lt_of_cell? w _ h.1) n1)).trans h.1, (World.cell?_of_block (w := w) (hf.block q (World.block_lt_of_cell? w _ h.2.1) n2)).trans h.2.1, h.2.2.1, h.2.2.2⟩
theorem Fx.row {a w w' : World} {row : Option Nat} (h : Fx (X2 xb rb) a w) (k : Fx (X3 xb rb row) w w') (hr : ∀ g, row = some g → a.heap.size ≤ g) : Fx (X2 xb rb) a w' :=
  ⟨k.os.trans h.os, k.tape.trans h.tape, k.output.trans h.output, Nat.le_trans h.size k.size, fun i hi hn => (k.block i (Nat.lt_of_lt_of_le hi h.size) (fun hx => by
    rcases hx with hx | hx | hx
    · exact hn (.inl hx)
    · exact hn (.inr hx)
    · have := hr i hx; omega)).trans (h.block i hi hn)⟩
theorem ret_slice {A : Option Addr} {m n cap : Nat} (h : m = n) : Ending.returned (.slice A m cap) = .returned (.slice A n cap) := by rw [h]
theorem nx3 {k : Nat} {row : Option Nat} (h : ¬ X2 xb rb k) (hr : row ≠ some k) : ¬ X3 xb rb row k := fun hx => by
  rcases hx with hx | hx | hx
  · exact h (.inl hx)
  · exact h (.inr hx)
  · exact hr hx
/-- What a branch's reader tells. -/
def BrP (xb rb b D : Nat) (r : BrO × St) (w : World) (e : Ending) (w' : World) : Prop :=
  ∃ (A : Option Addr) (cap : Nat), e = .returned (.agg #[.int .i64 ((r.1.wt : Nat) : Int), .slice A r.1.sets.length cap, .int .i64 ((r.1.pos : Nat) : Int)]) ∧ Row w' (w.heap.size + 1) 115 7 (DH w' (w.heap.size + 1)) r.1.sets (.slice A r.1.sets.length cap) ∧ MRd w' xb rb b D r.2 ∧ Fx (X2 xb rb) w w'
theorem info_lset : (Tryz.prog.info? 115).map (fun i => (i.zero, i.size, i.bytes)) = some (some (.agg #[.string ⟨#[]⟩, .string ⟨#[]⟩, .string ⟨#[]⟩, .int .i64 0, .slice none 0 0, .int .i64 0, .int .i64 0]), 7, 96) := by kernel_rfl
set_option maxHeartbeats 4000000 in
set_option maxRecDepth 100000 in
theorem lset_any {b1 : Nat} {row0 : Option Nat} {A0 : Option Addr} {n0 cap0 : Nat} {l0 : List DefO} (w : World) (h : MRd w xb rb b D st) {p q : Nat} (x : ByteArray) (hc : CapS w xb rb p q x) (hcr : row0 ≠ some p ∧ row0 ≠ some q) (hb1 : b ≤ b1) (hbw : b1 ≤ w.heap.size) (hxr : xb < b1 ∧ rb < b1) (hrow : Row w b1 115 7 (DH w b1) l0 (.slice A0 n0 cap0)) (hr0 : (Value.slice A0 n0 cap0).ownBlock = row0) (hlen : l0.length + st.len ≤ 200000) :
    Calls Tryz.prog 147 #[.slice A0 n0 cap0, .func (.func 103) #[] #[.pointer (some ⟨p, 0, none⟩), .pointer (some ⟨q, 0, none⟩)], .func (.func 148) #[.pointer (some ⟨xb, 0, none⟩)] #[]] w (LsP 115 7 DH xb rb b D b1 row0 l0 (st.list (fun t => isT t x.data.toList) (fun s : St => s.tl.sett D)) w) := by
  obtain ⟨i0, hi0, hz⟩ := Option.map_eq_some_iff.1 info_lset
  simp only [Prod.mk.injEq] at hz
  obtain ⟨hz0, hz1, hz2⟩ := hz
  have HZ0 := Lib.hid hz0
  have HZ1 := Lib.hid hz1
  have HZ2 := Lib.hid hz2
  have HI := Lib.hid hi0
  have hd : Dec (fun t => isT t x.data.toList) (fun s : St => s.tl.sett D) := dec_tl (sett_le D)
  have HD := Lib.hid hd
  obtain ⟨tot, htot⟩ : ∃ tot, tot = st.list (fun t => isT t x.data.toList) (fun s : St => s.tl.sett D) := ⟨_, rfl⟩
  rw [← htot]
  have HR0 := Lib.hid (show LsRel 115 7 DH (fun t => isT t x.data.toList) (fun s : St => s.tl.sett D) xb rb b D b1 row0 l0 tot w st.len (.slice A0 n0 cap0) w from ⟨[], st, rfl, by simpa using hrow, h, by rw [htot]; simp, Fx.refl _ _, .inl hr0, by simpa using hlen⟩)
  have HC := Lib.hid (fun (wr : World) (hf : Fx (X3 xb rb row0) w wr) => hc.fx3 hf hcr)
  clear hc hcr
  clear hz0 hz1 hz2 hi0 hd h hrow hr0 hlen htot
  go_enter Tryz.func147, Tryz.ntmps147
  go_wp2
  go_loopg [0] st.len (fun gk v wr => LsRel 115 7 DH (fun t => isT t x.data.toList) (fun s : St => s.tl.sett D) xb rb b D b1 row0 l0 tot w gk v wr)
  case atStart => exact HR0.out
  case round =>
    clear HR0
    obtain ⟨acc, st1, rfl, hL⟩ := hrel
    obtain ⟨A1, cap1, hv1⟩ := hL.row.form
    subst hv1
    have HL := Lib.hid hL
    clear hL
    obtain ⟨N, hN⟩ : ∃ N, N = (l0 ++ acc).length := ⟨_, rfl⟩
    have HNN := Lib.hid hN
    rw [← hN]
    clear hN
    cases hp : isT st1.hd x.data.toList with
    | false =>
      have HAN := Lib.hid (mskipc_no wr HL.out.mr x (HC.out wr HL.out.fx) hp)
      have HT := Lib.hid (show acc = tot.1 ∧ st1 = tot.2 by
        have := HL.out.tot
        rw [list_end (p := (fun t => isT t x.data.toList)) (rd := (fun s : St => s.tl.sett D)) hp] at this
        rw [← this]; simp)
      skip
      clear hp
      go_wp2_with fail
      refine (HAN.out).mono ?_
      rintro e w1 ⟨rfl, hb1'⟩
      have HB1 := Lib.hid hb1'
      clear hb1'
      go_wp2
      go_ret
      obtain ⟨e1, e2⟩ := HT.out
      have hN := HNN.out
      subst e1 e2
      exact ⟨A1, cap1, ret_slice hN, HL.out.row.keep (E := E0) (Kt.below HB1.out) id (fun _ _ h => h.keep (Kt.below (E := E0) HB1.out) id), HL.out.mr.below HB1.out, HL.out.fx.on HB1.out, HL.out.at_⟩
    | true =>
      have HAN := Lib.hid (mskipc_yes wr HL.out.mr x (HC.out wr HL.out.fx) hp)
      have HP := Lib.hid (show (fun t => isT t x.data.toList) st1.hd = true from hp)
      have HLT := Lib.hid ((HD.out st1 hp).1)
      skip
      clear hp
      go_wp2_with fail
      refine (HAN.out).mono ?_
      rintro e w1 ⟨rfl, hM1, hF1⟩
      have HM1 := Lib.hid hM1
      have HK1 := Lib.hid hF1
      have HF1 := Lib.hid (show Fx (X3 xb rb row0) w w1 from HL.out.fx.trans hF1.three)
      have hs1 := HF1.out.size
      clear hM1 hF1
      go_wp2_with fail
      refine (msett_any w1 HM1.out).mono ?_
      rintro e wA ⟨v, rfl, hX, hMA, hFA⟩
      have hFA' : Fx (X3 xb rb row0) w wA := HF1.out.trans hFA.three
      have hkt : Kt b1 E0 wr wA := Kt.fx (HK1.out.trans hFA) (fun k hk => x2_lt hk hxr.1 hxr.2)
      obtain ⟨cs, hO, hLH⟩ := HL.out.row
      have HO := Lib.hid (own_kt hO hkt id)
      have HLH := Lib.hid (hLH.imp (Q := DH wA b1) (fun _ _ h => h.keep hkt id))
      have HE := Lib.hid (show DH wA b1 ((fun s : St => s.tl.sett D) st1).1 [.string ⟨(st1.tl.sett D).1.nm.toArray⟩, .string v.o, .string v.nm, .int .i64 v.n, .slice v.A v.ll v.cap, .int .i64 v.p, .int .i64 (((st1.tl.sett D).1.pos : Nat) : Int)] from ⟨v, rfl, hX.mono (by omega)⟩)
      have HMA := Lib.hid (show MRd wA xb rb b D ((fun s : St => s.tl.sett D) st1).2 from hMA)
      have HFA := Lib.hid hFA'
      have hbA : b1 ≤ wA.heap.size := by have := hFA'.size; omega
      have hNl : N ≤ 200000 := by rw [HNN.out, List.length_append]; have := HL.out.len; omega
      rw [← HNN.out] at HO
      have HOA := Lib.hid (own_kt HO.out (Kt.below (E := E0) ((Below.refl wA.heap.size wA).alloc (Nat.le_refl _) (.cells #[.string ⟨(st1.tl.sett D).1.nm.toArray⟩, .string v.o, .string v.nm, .int .i64 v.n, .slice v.A v.ll v.cap, .int .i64 v.p, .int .i64 (((st1.tl.sett D).1.pos : Nat) : Int)] 115))) id)
      clear hO hLH hFA hMA hFA' hkt hX
      go_wp2_with (at_builtin; refine wpList_append_lies _ rfl _ _ 52 rfl b1 115 i0 (.agg #[.string ⟨#[]⟩, .string ⟨#[]⟩, .string ⟨#[]⟩, .int .i64 0, .slice none 0 0, .int .i64 0, .int .i64 0]) 7 96 Tryz.underlying52 HI.out HZ0.out HZ1.out HZ2.out rfl (by decide) _ _ _ rfl HOA.out ⟨wA.heap.size, 0, none⟩ 1 1 [.string ⟨(st1.tl.sett D).1.nm.toArray⟩, .string v.o, .string v.nm, .int .i64 v.n, .slice v.A v.ll v.cap, .int .i64 v.p, .int .i64 (((st1.tl.sett D).1.pos : Nat) : Int)] rfl rfl ?c1 ?c2 (by omega) ?c3 ?c4 ?c5 (wA.heap.size + 1) (by simp) ?_)
      case c1 => intro j u hj; exact (Bx.new wA 115 [.string ⟨(st1.tl.sett D).1.nm.toArray⟩, .string v.o, .string v.nm, .int .i64 v.n, .slice v.A v.ll v.cap, .int .i64 v.p, .int .i64 (((st1.tl.sett D).1.pos : Nat) : Int)]).cell_add hj
      case c2 => intro u hu; simp only [List.mem_cons, List.not_mem_nil, or_false] at hu; rcases hu with rfl | rfl | rfl | rfl | rfl | rfl | rfl <;> rfl
      case c3 => unfold maxLen; omega
      case c4 => omega
      case c5 => simp; omega
      intro g2 cap2 w3 hown3 hgrow3 hat3 hlt3
      have HR3 := Lib.hid (HL.out.step HD.out HP.out (by unfold RdT; decide) (fun _ _ _ _ _ hk h => h.keep hk (show ¬ (57 = 115) by decide)) hb1 (c := [.string ⟨(st1.tl.sett D).1.nm.toArray⟩, .string v.o, .string v.nm, .int .i64 v.n, .slice v.A v.ll v.cap, .int .i64 v.p, .int .i64 (((st1.tl.sett D).1.pos : Nat) : Int)]) (by rw [← HNN.out]; exact HO.out) HLH.out HE.out HMA.out HFA.out (by rw [← HNN.out]; exact hown3) (by rw [← HNN.out]; exact hgrow3) (by
        rcases hat3 with e | e
        · left; rw [← HNN.out]; exact e.symm
        · right; rw [e]; rfl))
      clear hown3 hgrow3 hat3
      go_wp2
      go_roundg ((fun s : St => s.tl.sett D) st1).2.len
      case measure => exact HLT.out
      case rel => exact ⟨_, _, rfl, HR3.out⟩
end
end
section
open Go.RowKit

section
variable {xb rb b D : Nat} {st : St}
set_option maxHeartbeats 4000000 in
theorem mbranch_any (w : World) (h : MRd w xb rb b D st) : Calls Tryz.prog 128 #[.pointer (some ⟨xb, 0, none⟩)] w (BrP xb rb b D (st.brch D) w) := by
  have hlen := h.len
  have hx := h.ltx
  have hrb := h.hr
  have HN := Lib.hid h.nx
  have hbl := h.ble
  have H := Lib.hid h
  clear h
  have hf0 := field0
  have hf1 := field1
  have hf2 := field2
  have c0 := H.out.c0
  go_enter Tryz.func128, Tryz.ntmps128
  go_wp2_with fail
  refine calls_gen (P := fun W => MRd W xb rb b D st ∧ Bx W w.heap.size 54 [.int .i64 0, .slice none 0 0, .int .i64 0] ∧ Fx (X2 xb rb) w W) ⟨H.out.alloc _, Bx.new _ _ _, (Fx.refl _ _).alloc _⟩ ?_
  rintro W ⟨hM, hB, hF⟩
  refine (hM.peek).mono ?_
  rintro e w1 ⟨rfl, hb1⟩
  have HM1 := Lib.hid (hM.below hb1)
  have HB1 := Lib.hid (hB.below hb1)
  have HF1 := Lib.hid (hF.on hb1)
  have hs1 := HB1.out.lt
  clear hM hB hF hb1 H c0
  go_wp2_with fail
  refine calls_gen (P := fun W => MRd W xb rb b D st ∧ Bx W w.heap.size 54 [.int .i64 0, .slice none 0 0, .int .i64 0] ∧ Bx W w1.heap.size 54 [.int .i64 0, .slice none 0 0, .int .i64 ((st.hd.pos : Nat) : Int)] ∧ Fx (X2 xb rb) w W) ⟨HM1.out.alloc _, HB1.out.alloc _, Bx.new _ _ _, HF1.out.alloc _⟩ ?_
  rintro W ⟨hM, hB, hC, hF⟩
  refine (mweight_any W hM).mono ?_
  rintro e w2 ⟨rfl, hM2, hF2⟩
  have hC2 := hC.fx hF2 (HN.out _ (by omega))
  have hB2 := hB.fx hF2 (HN.out _ (Nat.le_refl _))
  have c0 := hM2.c0
  have hx2 := hM2.ltx
  have a0 := hC2.cell 0
  have a1 := hC2.cell 1
  have a2 := hC2.cell 2
  simp only [List.getElem?_cons_zero, List.getElem?_cons_succ] at a0 a1 a2
  have y0 := hC2.frozen 0
  have y1 := hC2.frozen 1
  have y2 := hC2.frozen 2
  have hl2 := hC2.lt
  have hxn : xb ≠ w1.heap.size := by omega
  have HM2 := Lib.hid hM2
  have HB2 := Lib.hid hB2
  have HC2 := Lib.hid hC2
  have HF2 := Lib.hid (hF.trans hF2)
  clear hM hB hC hF hM2 hF2 hC2 hB2 HM1 HB1 HF1
  go_wp2_with fail
  refine calls_gen (P := fun W => MRd W xb rb b D st.wght.2 ∧ Bx W w.heap.size 54 [.int .i64 0, .slice none 0 0, .int .i64 0] ∧ Bx W w1.heap.size 54 [.int .i64 ((st.wght.1 : Nat) : Int), .slice none 0 0, .int .i64 ((st.hd.pos : Nat) : Int)] ∧ Fx (X2 xb rb) w W) ⟨HM2.out.set HC2.out (by unfold RdT; decide) (by omega) _, HB2.out.far (p := ⟨w1.heap.size, 0, none⟩) (by show w.heap.size ≠ w1.heap.size; omega) _, HC2.out.set 0 _, HF2.out.setCell (p := ⟨w1.heap.size, 0, none⟩) (.inl (by show _ ≤ w1.heap.size; omega)) _⟩ ?_
  rintro W ⟨hM, hB, hC, hF⟩
  have hlW := hC.lt
  clear HM2 HB2 HC2 HF2 c0 a0 a1 a2 y0 y1 y2
  cases hi : isT st.wght.2.hd opTrue with
  | true =>
    refine (hM.skip_yes ⟨#[116, 114, 117, 101]⟩ hi).mono ?_
    rintro e w3 ⟨rfl, hM3, hF3⟩
    have hB3 := hB.fx hF3 (HN.out _ (Nat.le_refl _))
    have hC3 := hC.fx hF3 (HN.out _ (by omega))
    have HM3 := Lib.hid (show MRd w3 xb rb b D (st.brch D).2 by
      have e : (st.brch D).2 = st.wght.2.tl := by simp [St.brch, St.sets, hi]
      rw [e]; exact hM3)
    have HE := Lib.hid (show (st.brch D).1 = ⟨st.wght.1, [], st.hd.pos⟩ by simp [St.brch, St.sets, hi])
    have HF3 := Lib.hid (hF.trans hF3)
    have a0 := hC3.cell 0
    have a1 := hC3.cell 1
    have a2 := hC3.cell 2
    simp only [List.getElem?_cons_zero, List.getElem?_cons_succ] at a0 a1 a2
    have d0 := hB3.cell 0
    have d1 := hB3.cell 1
    have d2 := hB3.cell 2
    simp only [List.getElem?_cons_zero, List.getElem?_cons_succ] at d0 d1 d2
    have y0 := hB3.frozen 0
    have y1 := hB3.frozen 1
    have y2 := hB3.frozen 2
    have hl3 := hC3.lt
    have hl4 := hB3.lt
    have HB3 := Lib.hid hB3
    clear hM hB hC hF hM3 hF3 hC3 hB3 hi
    go_wp2
    have hB4 := HB3.out.setL (i := 0) (us := [.int .i64 ((st.wght.1 : Nat) : Int), .slice none 0 0, .int .i64 ((st.hd.pos : Nat) : Int)])
    simp only [setL, setLs, List.set_cons_zero, List.set_cons_succ] at hB4
    refine bodyPost_ret (v := .agg #[.int .i64 ((st.wght.1 : Nat) : Int), .slice none 0 0, .int .i64 ((st.hd.pos : Nat) : Int)]) (by simp [results, Tryz.results128, go_sem, hB4.cell]) rfl ⟨none, 0, by rw [HE.out]; rfl, ?_, ?_, ?_⟩
    · rw [HE.out]; exact Row.nil _ _ _ _ _
    · exact MRd.setL (i := 0) (us := [.int .i64 ((st.wght.1 : Nat) : Int), .slice none 0 0, .int .i64 ((st.hd.pos : Nat) : Int)]) (by unfold RdT; decide) (by omega) HM3.out HB3.out
    · exact Fx.setL (i := 0) (us := [.int .i64 ((st.wght.1 : Nat) : Int), .slice none 0 0, .int .i64 ((st.hd.pos : Nat) : Int)]) (.inl (Nat.le_refl _)) HF3.out
  | false =>
    refine (hM.skip_no ⟨#[116, 114, 117, 101]⟩ hi).mono ?_
    rintro e w3 ⟨rfl, hb3⟩
    have HM3 := Lib.hid (hM.below hb3)
    have HB3 := Lib.hid (hB.below hb3)
    have HC3 := Lib.hid (hC.below hb3)
    have HF3 := Lib.hid (hF.on hb3)
    have HL0 := Lib.hid (show (st.wght.2.sett D).2.len ≤ 65537 from Nat.le_trans (Nat.le_trans (sett_le D _).1 (wght_le st).1) hlen)
    have HE := Lib.hid (show st.brch D = (⟨st.wght.1, (st.wght.2.sett D).1 :: ((st.wght.2.sett D).2.list (fun t => isT t [38]) (fun s => s.tl.sett D)).1, st.hd.pos⟩, ((st.wght.2.sett D).2.list (fun t => isT t [38]) (fun s => s.tl.sett D)).2) by simp [St.brch, St.sets, hi])
    clear hM hB hC hF hb3 hi
    go_wp2_with fail
    refine (msett_any w3 HM3.out).mono ?_
    rintro e w4 ⟨v, rfl, hX, hM4, hF4⟩
    have HM4 := Lib.hid hM4
    have HX4 := Lib.hid (show XO w4 (w.heap.size + 1) (st.wght.2.sett D).1.x v.c from hX.mono (by have := HF3.out.size; omega))
    have HB4 := Lib.hid (HB3.out.fx hF4 (HN.out _ (Nat.le_refl _)))
    have HC4 := Lib.hid (HC3.out.fx hF4 (HN.out _ (by omega)))
    have HF4 := Lib.hid (HF3.out.trans hF4)
    have hs4 := HC4.out.lt
    clear hX hM4 hF4 HM3 HB3 HC3 HF3
    go_wp2_with fail
    refine calls_gen (P := fun W => MRd W xb rb b D (st.wght.2.sett D).2 ∧ Bx W w.heap.size 54 [.int .i64 0, .slice none 0 0, .int .i64 0] ∧ Bx W w1.heap.size 54 [.int .i64 ((st.wght.1 : Nat) : Int), .slice none 0 0, .int .i64 ((st.hd.pos : Nat) : Int)] ∧ Row W (w.heap.size + 1) 115 7 (DH W (w.heap.size + 1)) [(st.wght.2.sett D).1] (.slice (some ⟨w4.heap.size, 0, none⟩) 1 1) ∧ w4.heap.size < W.heap.size ∧ Fx (X2 xb rb) w W) ⟨HM4.out.alloc _, HB4.out.alloc _, HC4.out.alloc _, ?_, by simp, HF4.out.alloc _⟩ ?_
    · exact Row.one (P := DH (w4.alloc _) (w.heap.size + 1)) (a := (st.wght.2.sett D).1) (c := [.string ⟨(st.wght.2.sett D).1.nm.toArray⟩, .string v.o, .string v.nm, .int .i64 v.n, .slice v.A v.ll v.cap, .int .i64 v.p, .int .i64 (((st.wght.2.sett D).1.pos : Nat) : Int)]) ⟨v, rfl, HX4.out.alloc _⟩ rfl (by omega)
    rintro W2 ⟨hM, hB, hC, hR, hwl, hF⟩
    refine (mskips_any W2 hM _).mono ?_
    rintro e w5 ⟨p, q, rfl, hcap, hp1, hq1, hp2, hq2, hb5⟩
    have HM5 := Lib.hid (hM.below hb5)
    have HB5 := Lib.hid (hB.below hb5)
    have HC5 := Lib.hid (hC.below hb5)
    have HR5 := Lib.hid (hR.keep (E := E0) (Kt.below hb5) id (fun _ _ h => h.keep (Kt.below (E := E0) hb5) id))
    have HF5 := Lib.hid (hF.on hb5)
    have HCA := Lib.hid hcap
    have hs5 : w4.heap.size < w5.heap.size := by have := hb5.size; omega
    clear hM hB hC hR hF hb5 hcap HM4 HX4 HB4 HC4 HF4
    go_wp2_with fail
    refine (lset_any (b1 := w.heap.size + 1) (row0 := some w4.heap.size) w5 HM5.out _ HCA.out ⟨by intro h; injection h; omega, by intro h; injection h; omega⟩ (by omega) (by omega) ⟨by omega, by omega⟩ HR5.out rfl (by have := HL0.out; simp; omega)).mono ?_
    rintro e w6 ⟨A, cap, rfl, hR6, hM6, hF6, _⟩
    have hF6' : Fx (X3 xb rb (some w4.heap.size)) w5 w6 := hF6
    have hB6 := HB5.out.fx hF6' (nx3 (HN.out _ (Nat.le_refl _)) (by intro h; injection h; omega))
    have hC6 := HC5.out.fx hF6' (nx3 (HN.out _ (by omega)) (by intro h; injection h; omega))
    have HR6 := Lib.hid hR6
    have HM6 := Lib.hid (show MRd w6 xb rb b D (st.brch D).2 by rw [HE.out]; exact hM6)
    have HF6 := Lib.hid (HF5.out.row hF6' (fun g hg => by injection hg; omega))
    have a0 := hC6.cell 0
    have a1 := hC6.cell 1
    have a2 := hC6.cell 2
    simp only [List.getElem?_cons_zero, List.getElem?_cons_succ] at a0 a1 a2
    have z0 := hC6.frozen 0
    have z1 := hC6.frozen 1
    have z2 := hC6.frozen 2
    have d0 := hB6.cell 0
    have d1 := hB6.cell 1
    have d2 := hB6.cell 2
    simp only [List.getElem?_cons_zero, List.getElem?_cons_succ] at d0 d1 d2
    have y0 := hB6.frozen 0
    have y1 := hB6.frozen 1
    have y2 := hB6.frozen 2
    have hl3 := hC6.lt
    have hl4 := hB6.lt
    have HB6 := Lib.hid hB6
    have HC6 := Lib.hid hC6
    obtain ⟨N, hN⟩ : ∃ N, N = ([(st.wght.2.sett D).1] ++ ((st.wght.2.sett D).2.list (fun t => isT t [38]) (fun s => s.tl.sett D)).1).length := ⟨_, rfl⟩
    have HNN := Lib.hid hN
    rw [show ([(st.wght.2.sett D).1] ++ ((st.wght.2.sett D).2.list (fun t => isT t (⟨#[38]⟩ : ByteArray).data.toList) (fun s => s.tl.sett D)).1).length = N from hN.symm] at HR6 ⊢
    have hn1 : w.heap.size ≠ w1.heap.size := by omega
    clear hR6 hM6 hF6 hF6' hB6 hC6 hN HM5 HB5 HC5 HR5 HF5
    go_wp2
    have hB7 := (HB6.out.far (p := ⟨w1.heap.size, 1, none⟩) (by show w.heap.size ≠ w1.heap.size; omega) (.slice A N cap)).setL (i := 0) (us := [.int .i64 ((st.wght.1 : Nat) : Int), .slice A N cap, .int .i64 ((st.hd.pos : Nat) : Int)])
    simp only [setL, setLs, List.set_cons_zero, List.set_cons_succ] at hB7
    refine bodyPost_ret (v := .agg #[.int .i64 ((st.wght.1 : Nat) : Int), .slice A N cap, .int .i64 ((st.hd.pos : Nat) : Int)]) (by simp [results, Tryz.results128, go_sem, hB7.cell]) rfl ⟨A, cap, by rw [HE.out, HNN.out]; rfl, ?_, ?_, ?_⟩
    · have hk : Kt (w.heap.size + 1) (fun e => e = 54) w6 (setL (w6.setCell ⟨w1.heap.size, 1, none⟩ (.slice A N cap)) w.heap.size 0 [.int .i64 ((st.wght.1 : Nat) : Int), .slice A N cap, .int .i64 ((st.hd.pos : Nat) : Int)]) := fun k cs e hk h1 h2 => (setL_heap (by omega) _ _ _).trans (Below.heap_setCell w6 ⟨w1.heap.size, 1, none⟩ _ k (by show k ≠ w1.heap.size; rintro rfl; exact h2 (blk_typ h1 HC6.out)))
      have hr := HR6.out.keep hk (show ¬ (115 = 54) by decide) (fun _ _ h => h.keep hk (show ¬ (57 = 54) by decide))
      rw [HE.out]
      have e : ((st.wght.2.sett D).1 :: ((st.wght.2.sett D).2.list (fun t => isT t [38]) (fun s => s.tl.sett D)).1).length = N := HNN.out.symm
      dsimp only
      rw [e]
      exact hr
    · exact MRd.setL (i := 0) (us := [.int .i64 ((st.wght.1 : Nat) : Int), .slice A N cap, .int .i64 ((st.hd.pos : Nat) : Int)]) (by unfold RdT; decide) (by omega) (HM6.out.set HC6.out (by unfold RdT; decide) (by omega) _) (HB6.out.far (p := ⟨w1.heap.size, 1, none⟩) (by show w.heap.size ≠ w1.heap.size; omega) _)
    · exact Fx.setL (i := 0) (us := [.int .i64 ((st.wght.1 : Nat) : Int), .slice A N cap, .int .i64 ((st.hd.pos : Nat) : Int)]) (.inl (Nat.le_refl _)) (HF6.out.setCell (p := ⟨w1.heap.size, 1, none⟩) (.inl (by show _ ≤ w1.heap.size; omega)) _)
end
end
end Go.Proofs.YtodijgndbjfbgaaGreatDoor
