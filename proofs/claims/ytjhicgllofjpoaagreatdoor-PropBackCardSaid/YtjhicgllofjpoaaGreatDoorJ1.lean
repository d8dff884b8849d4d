/-
  Formulas, as the document says them: a reader of tokens that keeps the first error, part by part; how a formula is told. Plain lists, nothing of the program.
-/
import Derived.Test.YtjhicgllofjpoaaGreatDoorG1
namespace Go.Proofs.YtjhicgllofjpoaaGreatDoor

/-- A formula that was read. -/
inductive Fo where
  | leaf (op nm : List UInt8) (p : Nat)
  | un (op : List UInt8) (a : Fo) (p : Nat)
  | bin (op : List UInt8) (a b : Fo) (p : Nat)
  deriving DecidableEq
def Fo.op : Fo → List UInt8
  | .leaf op _ _ => op
  | .un op _ _ => op
  | .bin op _ _ _ => op
def Fo.nm : Fo → List UInt8
  | .leaf _ nm _ => nm
  | _ => []
def Fo.pos : Fo → Nat
  | .leaf _ _ p => p
  | .un _ _ p => p
  | .bin _ _ _ p => p
def Fo.kids : Fo → List Fo
  | .leaf _ _ _ => []
  | .un _ a _ => [a]
  | .bin _ a b _ => [a, b]
def Fo.move (q : Nat) : Fo → Fo
  | .leaf op nm _ => .leaf op nm q
  | .un op a _ => .un op a q
  | .bin op a b _ => .bin op a b q
/-- But for places. -/
def Fo.bare : Fo → Fo
  | .leaf op nm _ => .leaf op nm 0
  | .un op a _ => .un op a.bare 0
  | .bin op a b _ => .bin op a.bare b.bare 0
def Fo.size : Fo → Nat
  | .leaf _ _ _ => 1
  | .un _ a _ => a.size + 1
  | .bin _ a b _ => a.size + b.size + 1
def opLab : List UInt8 := [108, 97, 98, 101, 108]
/-- The rank of a formula with that Op. -/
def pk (x : List UInt8) : Nat :=
  if x = [61, 62] then 0 else if x = [124] then 1 else if x = [38] then 2 else if x = [85] ∨ x = [87] ∨ x = [82] then 3
  else if x = [33] ∨ x = [88] ∨ x = [70] ∨ x = [71] then 4 else 5
def sp (k : Nat) (t : Tok) : Bool := (t.kind == 1 || t.kind == 4) && pk t.text == k
abbrev RF := Option Fo × St
def mvO (p : Nat) : Option Fo → Option Fo
  | some f => some (f.move p)
  | none => none
def unO (op : List UInt8) (p : Nat) : Option Fo → Option Fo
  | some f => some (.un op f p)
  | none => none
def binO (op : List UInt8) : Option Fo → Option Fo → Option Fo
  | some a, some b => some (.bin op a b a.pos)
  | _, _ => none
/-- What stands a level deeper: a formula, an until, one with a prefix. -/
structure Dq where
  f : St → RF
  u : St → RF
  x : St → RF
def enclS (d : Dq) (p : Nat) (st : St) : RF := (mvO p (d.f st).1, (d.f st).2.want [41])
def atomS (d : Dq) (st : St) : RF :=
  if st.hd.kind = 3 then (some (.leaf opLab st.hd.text st.hd.pos), st.tl)
  else if isT st.hd opTrue then (some (.leaf opTrue [] st.hd.pos), st.tl)
  else if isT st.hd opFalse then (some (.leaf opFalse [] st.hd.pos), st.tl)
  else if isT st.hd [40] then enclS d st.hd.pos st.tl
  else (none, st.fail 20)
def prefS (d : Dq) (st : St) : RF := if sp 4 st.hd then (unO st.hd.text st.hd.pos (d.x st.tl).1, (d.x st.tl).2) else atomS d st
def rightS (k : Nat) (rd bh : St → RF) (st : St) : RF :=
  if sp k (rd st).2.hd then (binO (rd st).2.hd.text (rd st).1 (bh (rd st).2.tl).1, (bh (rd st).2.tl).2) else rd st
def leftF (k : Nat) (rd : St → RF) : Nat → RF → RF
  | 0, r => r
  | n + 1, r => if sp k r.2.hd then leftF k rd n (binO r.2.hd.text r.1 (rd r.2.tl).1, (rd r.2.tl).2) else r
def leftS (k : Nat) (rd : St → RF) (st : St) : RF := leftF k rd (rd st).2.len (rd st)
def untlS (d : Dq) : St → RF := rightS 3 (prefS d) d.u
def conjS (d : Dq) : St → RF := leftS 2 (untlS d)
def disjS (d : Dq) : St → RF := leftS 1 (conjS d)
def formS (d : Dq) : St → RF := rightS 0 (disjS d) d.f
def deepS (st : St) : RF := (none, st.fail 21)
def dq : Nat → Dq
  | 0 => ⟨deepS, deepS, deepS⟩
  | l + 1 => ⟨formS (dq l), untlS (dq l), prefS (dq l)⟩
inductive FP where
  | ok (f : Fo)
  | er (c p : Nat)
  deriving DecidableEq
def endF : RF → FP
  | (_, .bad c p) => .er c p
  | (o, .good us) => if (hd us).kind = 0 then (match o with | some f => .ok f | none => .er 20 0) else .er 20 (hd us).pos
def parseF (D : Nat) (l : List UInt8) : FP :=
  match toks l with
  | .error x => .er x.1 x.2
  | .ok ts => endF ((dq D).f (.good ts))
def loP (k place : Nat) : Nat := if k = 4 then 4 else if k = 0 ∨ k = 3 then k + 1 - min place 1 else k + place
/-- How a formula is told. -/
def tlF : Fo → List UInt8
  | .leaf op nm _ => if op = opLab then 34 :: (nm ++ [34]) else op
  | .un op a _ => op ++ ((if op = [33] then [] else [32]) ++ parX (decide (pk a.op < pk op)) (tlF a))
  | .bin op a b _ => parX (decide (pk a.op < loP (pk op) 0)) (tlF a) ++ (32 :: op ++ 32 :: parX (decide (pk b.op < loP (pk op) 1)) (tlF b))
end Go.Proofs.YtjhicgllofjpoaaGreatDoor
