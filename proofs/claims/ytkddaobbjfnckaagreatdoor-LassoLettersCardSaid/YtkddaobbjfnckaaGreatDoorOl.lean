/-
  Names; formulas made of one and of two; walked.
-/
import Derived.Test.YtkddaobbjfnckaaGreatDoorO4
import Derived.Test.YtkddaobbjfnckaaGreatDoorO2
import Derived.Test.YtkddaobbjfnckaaGreatDoorJC
namespace Go.Proofs.YtkddaobbjfnckaaGreatDoor
open Go.RowKit

/-- The names. -/
def NMS : List ByteArray := [⟨#[97]⟩, ⟨#[98]⟩, ⟨#[103, 111, 97, 108]⟩]
def NmP (w : World) (e : Ending) (w' : World) : Prop := ∃ q, e = .returned (.slice (some ⟨q, 0, none⟩) 3 3) ∧ SSl w' (some ⟨q, 0, none⟩) NMS ∧ Below w.heap.size w w'
theorem ssl_bx {w : World} {q : Nat} {t : TypeId} {l : List ByteArray} (h : Bx w q t (l.map Value.string)) : SSl w (some ⟨q, 0, none⟩) l := fun i hi => by
  refine ⟨q, 0, rfl, ?_⟩
  rw [Nat.zero_add, h.cell i, List.getElem?_map, List.getElem?_eq_getElem hi]; rfl
theorem names_any (w : World) : Calls Tryz.prog 19 #[] w (NmP w) := by
  go_enter Tryz.func19, Tryz.ntmps19
  go_wp2
  go_ret
  exact ⟨w.heap.size, rfl, ssl_bx (t := 9) (Bx.new w 9 (NMS.map Value.string)), below_alloc _ _⟩
def TT : Nat → Prop := fun _ => True
/-- A formula that a call has made. -/
def FMk (x : Fo) (w : World) (e : Ending) (w' : World) : Prop := ∃ v : FV, e = .returned (.agg #[.string v.o, .string v.nm, .slice v.A v.ll v.cap, .int .i64 v.p]) ∧ FS w' 27 TT x v.c ∧ Below w.heap.size w w'
theorem FS.tt {w : World} {S : Nat → Prop} {x : Fo} {c : List Value} (h : FS w 27 S x c) : FS w 27 TT x c := h.wide fun _ _ _ => trivial
theorem arr_new {W : World} {q : Nat} {xs : List Value} (h : Bx W q 27 xs) : Arr W 27 TT q xs := ⟨trivial, _, h, fun j u hu => by simpa using hu⟩
theorem fs_un {W : World} {q : Nat} {op : ByteArray} {x : Fo} {c : List Value} (h : Bx W q 27 c) (hx : FS W 27 TT x c) : FS W 27 TT (fUn op.data.toList x) [.string op, .string ⟨#[]⟩, .slice (some ⟨q, 0, none⟩) 1 1, .int .i64 0] :=
  ⟨q, 1, c, rfl, arr_new h, hx⟩
theorem fs_bin {W : World} {q : Nat} {op : ByteArray} {x y : Fo} {c d : List Value} (h : Bx W q 27 (c ++ d)) (hx : FS W 27 TT x c) (hy : FS W 27 TT y d) : FS W 27 TT (fBin op.data.toList x y) [.string op, .string ⟨#[]⟩, .slice (some ⟨q, 0, none⟩) 2 2, .int .i64 0] :=
  ⟨q, 2, c, d, rfl, arr_new h, hx, hy⟩
theorem one_any {op : ByteArray} {x : Fo} {v : FV} (w : World) (hx : FS w 27 TT x v.c) : Calls Tryz.prog 24 #[.string op, .agg #[.string v.o, .string v.nm, .slice v.A v.ll v.cap, .int .i64 v.p]] w (FMk (fUn op.data.toList x) w) := by
  have HX := Lib.hid hx
  clear hx
  go_enter Tryz.func24, Tryz.ntmps24
  go_wp2
  have hz : ((w.alloc (.cells v.c.toArray 27)).alloc (.cells #[.string op, .string ⟨#[]⟩, .slice (some ⟨w.heap.size + 1 + 1, 0, none⟩) 1 1, .int .i64 0] 27)).heap.size = w.heap.size + 1 + 1 := by simp
  have hz1 : (w.alloc (.cells v.c.toArray 27)).heap.size = w.heap.size + 1 := by simp
  have hbx := Bx.new ((w.alloc (.cells v.c.toArray 27)).alloc (.cells #[.string op, .string ⟨#[]⟩, .slice (some ⟨w.heap.size + 1 + 1, 0, none⟩) 1 1, .int .i64 0] 27)) 27 (v.c)
  rw [hz] at hbx
  have hbr := (Bx.new (w.alloc (.cells v.c.toArray 27)) 27 [.string op, .string ⟨#[]⟩, .slice (some ⟨w.heap.size + 1 + 1, 0, none⟩) 1 1, .int .i64 0]).below (below_alloc _ (.cells (v.c).toArray 27))
  rw [hz1] at hbr
  have hbl : Below w.heap.size w (((w.alloc (.cells v.c.toArray 27)).alloc (.cells #[.string op, .string ⟨#[]⟩, .slice (some ⟨w.heap.size + 1 + 1, 0, none⟩) 1 1, .int .i64 0] 27)).alloc (.cells (v.c).toArray 27)) := below_t (below_t (below_alloc _ _) (below_alloc _ _)) (below_alloc _ _)
  have hfs := fs_un (op := op) hbx (HX.out.below hbl)
  obtain ⟨y0, y1, y2, y3⟩ := hbr.cells4
  clear hz hz1 hbx hbr
  refine bodyPost_ret (v := .agg #[.string op, .string ⟨#[]⟩, .slice (some ⟨w.heap.size + 1 + 1, 0, none⟩) 1 1, .int .i64 0]) (by simp [results, Tryz.results24, go_sem]) rfl ⟨⟨op, ⟨#[]⟩, some ⟨w.heap.size + 1 + 1, 0, none⟩, 1, 1, 0⟩, rfl, hfs, hbl⟩
theorem two_any {op : ByteArray} {x y : Fo} {v u : FV} (w : World) (hx : FS w 27 TT x v.c) (hy : FS w 27 TT y u.c) : Calls Tryz.prog 22 #[.string op, .agg #[.string v.o, .string v.nm, .slice v.A v.ll v.cap, .int .i64 v.p], .agg #[.string u.o, .string u.nm, .slice u.A u.ll u.cap, .int .i64 u.p]] w (FMk (fBin op.data.toList x y) w) := by
  have HX := Lib.hid hx
  have HY := Lib.hid hy
  clear hx hy
  go_enter Tryz.func22, Tryz.ntmps22
  go_wp2
  have hz : (((w.alloc (.cells v.c.toArray 27)).alloc (.cells u.c.toArray 27)).alloc (.cells #[.string op, .string ⟨#[]⟩, .slice (some ⟨w.heap.size + 1 + 1 + 1, 0, none⟩) 2 2, .int .i64 0] 27)).heap.size = w.heap.size + 1 + 1 + 1 := by simp
  have hz1 : ((w.alloc (.cells v.c.toArray 27)).alloc (.cells u.c.toArray 27)).heap.size = w.heap.size + 1 + 1 := by simp
  have hbx := Bx.new (((w.alloc (.cells v.c.toArray 27)).alloc (.cells u.c.toArray 27)).alloc (.cells #[.string op, .string ⟨#[]⟩, .slice (some ⟨w.heap.size + 1 + 1 + 1, 0, none⟩) 2 2, .int .i64 0] 27)) 27 (v.c ++ u.c)
  rw [hz] at hbx
  have hbr := (Bx.new ((w.alloc (.cells v.c.toArray 27)).alloc (.cells u.c.toArray 27)) 27 [.string op, .string ⟨#[]⟩, .slice (some ⟨w.heap.size + 1 + 1 + 1, 0, none⟩) 2 2, .int .i64 0]).below (below_alloc _ (.cells (v.c ++ u.c).toArray 27))
  rw [hz1] at hbr
  have hbl : Below w.heap.size w ((((w.alloc (.cells v.c.toArray 27)).alloc (.cells u.c.toArray 27)).alloc (.cells #[.string op, .string ⟨#[]⟩, .slice (some ⟨w.heap.size + 1 + 1 + 1, 0, none⟩) 2 2, .int .i64 0] 27)).alloc (.cells (v.c ++ u.c).toArray 27)) := below_t (below_t (below_t (below_alloc _ _) (below_alloc _ _)) (below_alloc _ _)) (below_alloc _ _)
  have hfs := fs_bin (op := op) hbx (HX.out.below hbl) (HY.out.below hbl)
  obtain ⟨y0, y1, y2, y3⟩ := hbr.cells4
  clear hz hz1 hbx hbr
  refine bodyPost_ret (v := .agg #[.string op, .string ⟨#[]⟩, .slice (some ⟨w.heap.size + 1 + 1 + 1, 0, none⟩) 2 2, .int .i64 0]) (by simp [results, Tryz.results22, go_sem]) rfl ⟨⟨op, ⟨#[]⟩, some ⟨w.heap.size + 1 + 1 + 1, 0, none⟩, 2, 2, 0⟩, rfl, hfs, hbl⟩
end Go.Proofs.YtkddaobbjfnckaaGreatDoor
