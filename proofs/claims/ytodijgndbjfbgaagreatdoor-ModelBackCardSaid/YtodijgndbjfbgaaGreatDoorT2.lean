/-
  A model's lists told: what all of them share.
-/
import Derived.Test.YtodijgndbjfbgaaGreatDoorGC
import Derived.Test.YtodijgndbjfbgaaGreatDoorT1
import Derived.Test.YtodijgndbjfbgaaGreatDoorH4
import Derived.OwnWalk
import Derived.OneCell
import Derived.Laws.MakeOwn
import Derived.Test.YtodijgndbjfbgaaGreatDoorXC
import Derived.Lib.Join
import Derived.WalkSmall
namespace Go.Proofs.YtodijgndbjfbgaaGreatDoor
open Go.RowKit

theorem joinL_eq (b : List UInt8) : ∀ l : List (List UInt8), joinL b l = Lib.join l b
  | [] => rfl
  | [x] => (Lib.join_one x b).symm
  | x :: y :: r => by
    have ih := joinL_eq b (y :: r)
    rw [joinL, ih, Lib.join_cons, Lib.join_cons, Lib.joinTail]
    simp [Lib.joinTail]
theorem joinL_nil : ∀ l : List (List UInt8), joinL [] l = l.flatten
  | [] => rfl
  | [x] => by simp [joinL]
  | x :: y :: r => by
    have ih := joinL_nil (y :: r)
    rw [joinL, ih]
    simp
/-- What a call tells, and memory that was there is as it was. -/
def TlP (l : List UInt8) (w : World) (e : Ending) (w' : World) : Prop := e = .returned (strV l) ∧ Below w.heap.size w w'
theorem size_listM (s : ByteArray) : s.data.toList.length = s.size := by simp
theorem str_ofM (l : List UInt8) (n : Nat) (h : l.length ≤ n) : ∃ t : ByteArray, t.data.toList = l ∧ t.size ≤ n := ⟨⟨l.toArray⟩, rfl, by rw [← size_listM]; exact h⟩
theorem ret_strM {s : ByteArray} {l : List UInt8} (h : s.data.toList = l) : Ending.returned (.string s) = .returned (strV l) := by
  have : s = ⟨l.toArray⟩ := by rw [← h]
  rw [this]
  rfl
/-- A list's element, where it lies. -/
theorem LH.get {α : Type} {P : α → List Value → Prop} {sz : Nat} (hsz : ∀ a c, P a c → c.length = sz) : ∀ {xs : List α} {cs : List Value}, LH P xs cs → ∀ i (h : i < xs.length), ∃ c, P xs[i] c ∧ ∀ j, j < sz → cs[i * sz + j]? = c[j]?
  | [], _, _, i, h => absurd h (by simp)
  | a :: xs, cs, ⟨c, r, hc, ha, hr⟩, i, h => by
    subst hc
    have hl := hsz a c ha
    cases i with
    | zero => exact ⟨c, ha, fun j hj => by rw [Nat.zero_mul, Nat.zero_add, List.getElem?_append_left (by omega)]⟩
    | succ i =>
      obtain ⟨c', h1, h2⟩ := LH.get hsz hr i (by simpa using h)
      refine ⟨c', by simpa using h1, fun j hj => ?_⟩
      have e : (i + 1) * sz = i * sz + sz := Nat.succ_mul i sz
      rw [← h2 j hj, List.getElem?_append_right (by omega)]
      congr 1
      omega
theorem Row.get {α : Type} {w : World} {b sz n cap : Nat} {t : TypeId} {P : α → List Value → Prop} {xs : List α} {A : Option Addr} (h : Row w b t sz P xs (.slice A n cap)) (hsz : ∀ a c, P a c → c.length = sz) (i : Nat) (hi : i < xs.length) : ∃ g c, A = some ⟨g, 0, none⟩ ∧ g < w.heap.size ∧ P xs[i] c ∧ ∀ j u, c[j]? = some u → w.cell? ⟨g, i * sz + j, none⟩ = some u := by
  obtain ⟨cs, h1, h2⟩ := h
  obtain ⟨c, hp, hj⟩ := h2.get hsz i hi
  rcases h1.2 with ⟨hv, hn⟩ | ⟨g, cap', cur, hv, _, hb, _⟩
  · omega
  · simp only [Value.slice.injEq] at hv
    obtain ⟨rfl, rfl, rfl⟩ := hv
    refine ⟨g, c, rfl, (Array.getElem?_eq_some_iff.1 hb).1, hp, fun j u hu => ?_⟩
    have hj6 : j < sz := by rw [← hsz _ _ hp]; exact (List.getElem?_eq_some_iff.1 hu).1
    have h1' := h1.cells (g := g) rfl (i * sz + j) u (by rw [hj j hj6]; exact hu)
    have e : ∀ m, (⟨g, 0, none⟩ : Addr).add m = ⟨g, m, none⟩ := fun m => by
      unfold Addr.add
      by_cases h0 : m = 0 <;> simp [h0]
    rw [e] at h1'
    exact h1'
theorem DH.len {w : World} {b : Nat} {d : DefO} {c : List Value} (h : DH w b d c) : c.length = 7 := by obtain ⟨v, h1, _⟩ := h; rw [h1]; rfl
theorem VH.len {w : World} {b : Nat} {d : VarO} {c : List Value} (h : VH w b d c) : c.length = 19 := by obtain ⟨p, q, r, h1, _⟩ := h; rw [h1]; rfl
theorem BH.len {w : World} {b : Nat} {d : BrO} {c : List Value} (h : BH w b d c) : c.length = 3 := by obtain ⟨A, cap, h1, _⟩ := h; rw [h1]; rfl
theorem CH.len {w : World} {b : Nat} {d : CmdO} {c : List Value} (h : CH w b d c) : c.length = 8 := by obtain ⟨v, A, cap, h1, _⟩ := h; rw [h1]; rfl
theorem MH.len {w : World} {b : Nat} {d : ModO} {c : List Value} (h : MH w b d c) : c.length = 4 := by obtain ⟨A, cap, B, cap', h1, _⟩ := h; rw [h1]; rfl
/-- The texts told so far. -/
def toldA (ts : List (List UInt8)) (k n : Nat) : List Value := (ts.take k).map strV ++ List.replicate (n - k) (.string ⟨#[]⟩)
theorem toldA_len {ts : List (List UInt8)} {k n : Nat} (hk : k ≤ n) (hn : n = ts.length) : (toldA ts k n).length = n := by
  unfold toldA
  simp only [List.length_append, List.length_map, List.length_take, List.length_replicate]
  omega
theorem toldA_at {ts : List (List UInt8)} {k n : Nat} (hk : k < n) (hn : n = ts.length) : (toldA ts k n)[k]? = some (.string ⟨#[]⟩) := by
  unfold toldA
  have h1 : ((ts.take k).map strV).length = k := by simp only [List.length_map, List.length_take]; omega
  rw [List.getElem?_append_right (by omega), h1, Nat.sub_self]
  obtain ⟨m, hm⟩ : ∃ m, n - k = m + 1 := ⟨n - k - 1, by omega⟩
  rw [hm, List.replicate_succ]
  rfl
theorem toldA_set {ts : List (List UInt8)} {k n : Nat} (hk : k < n) (hn : n = ts.length) : (toldA ts k n).set k (strV (ts[k]'(by omega))) = toldA ts (k + 1) n := by
  unfold toldA
  have h1 : ((ts.take k).map strV).length = k := by simp only [List.length_map, List.length_take]; omega
  rw [List.set_append_right _ _ (by omega), h1, Nat.sub_self, List.take_succ_eq_append_getElem (by omega), List.map_append, List.append_assoc]
  congr 1
  obtain ⟨m, hm⟩ : ∃ m, n - k = m + 1 := ⟨n - k - 1, by omega⟩
  rw [hm, show n - (k + 1) = m by omega, List.replicate_succ]
  rfl
theorem owns_full {w : World} {base n g : Nat} {e : TypeId} {cs : List Value} (h : w.ownsRow base e 1 (.slice (some ⟨g, 0, none⟩) n n) n cs) : Bx w g e cs := by
  rcases h.2 with ⟨hv, _⟩ | ⟨g', cap, cur, hv, _, h3, _, _, h6, h7⟩
  · cases hv
  · simp only [Value.slice.injEq, Option.some.injEq, Addr.mk.injEq] at hv
    obtain ⟨⟨rfl, _, _⟩, _, rfl⟩ := hv
    have : cs = cur.toList := by
      rw [← h7, List.take_of_length_le]
      rw [Array.length_toList]
      omega
    subst this
    exact h3
theorem made_empty (n : Nat) : (madeCells #[Value.string ⟨#[]⟩] n).toList = List.replicate n (.string ⟨#[]⟩) := by
  rw [List.eq_replicate_iff]
  constructor
  · rw [Array.length_toList, size_madeCells]
  · intro u hu
    unfold madeCells at hu
    simp only [Array.toList_map, Array.toList_range, List.mem_map] at hu
    obtain ⟨j, _, rfl⟩ := hu
    have : j % (#[Value.string ⟨#[]⟩] : Array Value).size = 0 := Nat.mod_one j
    rw [this]
    rfl
/-- What the rounds of tellAll keep. -/
def TaRel {α : Type} (tl : α → List UInt8) (xs : List α) (n : Nat) (w : World) (i : Value) (wr : World) : Prop :=
  ∃ k : Nat, i = .int .i64 (k : Int) ∧ k ≤ n ∧ Bx wr w.heap.size 9 (toldA (xs.map tl) k n) ∧ Below w.heap.size w wr
theorem infoStr : (Tryz.prog.info? 9).map (fun i => (i.zero, i.size, i.bytes)) = some (some (.string ⟨#[]⟩), 1, 16) := by kernel_rfl
theorem strs_of (ts : List (List UInt8)) : ∃ xs : List ByteArray, xs.map (·.data.toList) = ts ∧ xs.map Value.string = ts.map strV := ⟨ts.map fun t => ⟨t.toArray⟩, by rw [List.map_map]; exact (List.map_congr_left (fun _ _ => rfl)).trans (List.map_id ts), by rw [List.map_map]; exact List.map_congr_left (fun _ _ => rfl)⟩
/-- What the last call reads. -/
theorem told_cells {w : World} {g n : Nat} {ts : List (List UInt8)} (hn : n = ts.length) (h : Bx w g 9 (toldA ts n n)) {xs : List ByteArray} (hx : xs.map Value.string = ts.map strV) : ∀ (j : Nat) (x : ByteArray), xs[j]? = some x → w.cell? ⟨g, 0 + j, none⟩ = some (.string x) := by
  intro j x hj
  have h1 : toldA ts n n = xs.map Value.string := by
    unfold toldA
    rw [List.take_of_length_le (by omega), Nat.sub_self, hx]
    simp
  rw [Nat.zero_add, h.cell j, h1, List.getElem?_map, hj]
  rfl
theorem toldA_zero (ts : List (List UInt8)) (n : Nat) : toldA ts 0 n = List.replicate n (.string ⟨#[]⟩) := by simp [toldA]
end Go.Proofs.YtodijgndbjfbgaaGreatDoor
