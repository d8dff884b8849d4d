/-
  chain: a vector is put at the head of its chain; said of the table as it lies.
-/
import Derived.Test.YtoppjkdlloddmaaDoorL4
import Derived.RegionTactic
import Derived.BigRegion
namespace Go.Proofs.YtoppjkdlloddmaaDoor
open Go.RowKit

set_option maxHeartbeats 1000000 in
theorem chain_raw {w : World} {b ge gh n ce m ch i p : Nat} {v x0 : Value} {xs : List Int} {z : Int} (hc0 : w.cell? ⟨b, 0, none⟩ = some (.slice (some ⟨ge, 0, none⟩) n ce)) (hc1 : w.cell? ⟨b, 1, none⟩ = some (.slice (some ⟨gh, 0, none⟩) m ch))
    (hcv : w.cell? ⟨ge, i * 2, none⟩ = some v) (hcx : w.cell? ⟨ge, i * 2 + 1, none⟩ = some x0) (hfx : w.frozen? ⟨ge, i * 2 + 1, none⟩ = false) (hch : w.cell? ⟨gh, p, none⟩ = some (.int .i64 z)) (hfh : w.frozen? ⟨gh, p, none⟩ = false)
    (hr : R32 w v xs) (hx : xs.length ≤ 1000) (hp : hashN xs % m = p) (hm : 0 < m) (hm2 : m ≤ 100000) (hi : i < n) (h1 : ge ≠ b) (h2 : gh ≠ b) (h3 : ge ≠ gh) :
    Calls Tryd.prog 17 #[.pointer (some ⟨b, 0, none⟩), .int .i64 (i : Int)] w fun e w' => e = .returned (.tuple #[]) ∧ ∃ k, w' = ((w.drewN k).setCell ⟨ge, i * 2 + 1, none⟩ (.int .i64 z)).setCell ⟨gh, p, none⟩ (.int .i64 (i : Int)) := by
  have hpl : p < m := by rw [← hp]; exact Nat.mod_lt _ hm
  have HP := Lib.hid (place_raw hr (by omega) hc1 hm hm2)
  rw [hp] at HP
  clear hr hp
  have i0 : (0 : Int) ≤ (i : Int) := by omega
  have i1 : (i : Int) < (n : Int) := by omega
  have p0 : (0 : Int) ≤ (p : Int) := by omega
  have p1 : (p : Int) < (m : Int) := by omega
  go_enter Tryd.func17, Tryd.ntmps17
  go_wp2_with fail
  refine HP.out.mono ?_
  rintro e w' ⟨rfl, k, rfl⟩
  go_wp2_with fail
  go_region
  all_goals go_wp2_with fail
  all_goals go_end0
  all_goals exact ⟨rfl, k + 1, rfl⟩

section
variable {w : World} {B b n m : Nat} {ev hv : Value} {vl : Nat → Value} {vs : List (List Int)} {nx hs : Nat → Int}
theorem Tb.setNext (h : Tb w B b n m ev hv vl vs nx hs) {g cap : Nat} (he : ev = .slice (some ⟨g, 0, none⟩) n cap) (i : Nat) (hi : i < n) (z : Int) : Tb (w.setCell ⟨g, i * 2 + 1, none⟩ (.int .i64 z)) B b n m ev hv vl vs (upd nx i z) hs := by
  obtain ⟨cs, h1, h2⟩ := h.ent
  obtain ⟨ds, h3, h4⟩ := h.hea
  subst he
  obtain ⟨_, cb, hcb⟩ := owns_blk h1 (g := g) rfl
  obtain ⟨h5, h6⟩ := h1.stored (i * 2 + 1) (.int .i64 z)
  have hl := h1.1
  have hne : ∀ {e : TypeId} {size k : Nat} {v : Value} {xs : List Value}, w.ownsRow B e size v k xs → e ≠ 46 → (w.setCell ⟨g, i * 2 + 1, none⟩ (.int .i64 z)).ownsRow B e size v k xs := fun ho hne =>
    owns_of ho fun g' hg' => by
      obtain ⟨_, cs', hb'⟩ := owns_blk ho hg'
      exact h6.block g' hb'.lt (fun e => by injection e with e; exact hb'.ne_ hcb hne e)
  refine ⟨h.len, ?_, ⟨_, h5, fun j hj => ?_⟩, ⟨ds, hne h3 (by decide), h4⟩, fun j hj => hne (h.vec j hj) (by decide)⟩
  · exact (h6.block b h.blk.lt (fun e => by injection e with e; exact h.blk.ne_ hcb (by decide) e)).trans h.blk
  · refine ⟨?_, ?_⟩
    · rw [List.getElem?_set_ne (by omega)]; exact (h2 j hj).1
    · by_cases hji : j = i
      · subst hji
        rw [List.getElem?_set_self (by omega), upd_same]
      · rw [List.getElem?_set_ne (by omega), upd_far _ _ _ _ hji]; exact (h2 j hj).2
theorem Tb.setHead (h : Tb w B b n m ev hv vl vs nx hs) {g cap : Nat} (he : hv = .slice (some ⟨g, 0, none⟩) m cap) (p : Nat) (hp : p < m) (z : Int) : Tb (w.setCell ⟨g, p, none⟩ (.int .i64 z)) B b n m ev hv vl vs nx (upd hs p z) := by
  obtain ⟨cs, h1, h2⟩ := h.ent
  obtain ⟨ds, h3, h4⟩ := h.hea
  subst he
  obtain ⟨_, cb, hcb⟩ := owns_blk h3 (g := g) rfl
  obtain ⟨h5, h6⟩ := h3.stored p (.int .i64 z)
  have hl := h3.1
  have hne : ∀ {e : TypeId} {size k : Nat} {v : Value} {xs : List Value}, w.ownsRow B e size v k xs → e ≠ 3 → (w.setCell ⟨g, p, none⟩ (.int .i64 z)).ownsRow B e size v k xs := fun ho hne =>
    owns_of ho fun g' hg' => by
      obtain ⟨_, cs', hb'⟩ := owns_blk ho hg'
      exact h6.block g' hb'.lt (fun e => by injection e with e; exact hb'.ne_ hcb hne e)
  refine ⟨h.len, ?_, ⟨cs, hne h1 (by decide), h2⟩, ⟨_, h5, fun j hj => ?_⟩, fun j hj => hne (h.vec j hj) (by decide)⟩
  · exact (h6.block b h.blk.lt (fun e => by injection e with e; exact h.blk.ne_ hcb (by decide) e)).trans h.blk
  · by_cases hji : j = p
    · subst hji
      rw [List.getElem?_set_self (by omega), upd_same]
    · rw [List.getElem?_set_ne (by omega), upd_far _ _ _ _ hji]; exact h4 j hj

/-- What chain leaves. -/
def ChainF (w : World) (B b n m : Nat) (ev hv : Value) (vl : Nat → Value) (vs : List (List Int)) (nx hs : Nat → Int) (i : Nat) (e : Ending) (w' : World) : Prop :=
  e = .returned (.tuple #[]) ∧ Tb w' B b n m ev hv vl vs (upd nx i (hs (plf vs m i))) (upd hs (plf vs m i) (i : Int)) ∧ Keep b B w w'
theorem chain_tb (h : Tb w B b n m ev hv vl vs nx hs) (i : Nat) (hi : i < n) (hm : 0 < m) (hm2 : m ≤ 100000) (h64 : (vs.getD i []).length ≤ 64) :
    Calls Tryd.prog 17 #[.pointer (some ⟨b, 0, none⟩), .int .i64 (i : Int)] w (ChainF w B b n m ev hv vl vs nx hs i) := by
  obtain ⟨ge, ce, hev, hge, hgb, ⟨cse, hbe⟩, hce⟩ := h.entAt (by omega)
  obtain ⟨gh, ch, hhv, hgh, hhb, ⟨csh, hbh⟩, hch⟩ := h.heaAt hm
  have hc0 := h.c0
  have hc1 := h.c1
  rw [hev] at hc0
  rw [hhv] at hc1
  have hpl : plf vs m i < m := Nat.mod_lt _ hm
  refine (chain_raw hc0 hc1 (hce i hi).1 (hce i hi).2.1 (hce i hi).2.2 (hch _ hpl).1 (hch _ hpl).2 (h.r32 i hi) (by omega) rfl hm hm2 hi hgb hhb (hbe.ne_ hbh (by decide))).mono ?_
  rintro e w' ⟨rfl, k, rfl⟩
  have h1 := (h.drewN k).setNext hev i hi (hs (plf vs m i))
  refine ⟨rfl, h1.setHead hhv (plf vs m i) hpl (i : Int), ?_⟩
  have k1 : Keep b B w (w.drewN k) := (Keep.refl b B w).drewN k
  have k2 := k1.setCell (i := i * 2 + 1) (u := .int .i64 (hs (plf vs m i))) (.inr hge) (show Blk (w.drewN k) ge 46 cse from hbe) (.inr (.inl rfl))
  obtain ⟨gh', ch', hhv', _, _, ⟨csh', hbh'⟩, _⟩ := h1.heaAt hm
  rw [hhv] at hhv'
  injection hhv' with e1
  injection e1 with e2
  injection e2 with e3
  subst e3
  exact k2.setCell (.inr hgh) hbh' (.inr (.inr rfl))
end
end Go.Proofs.YtoppjkdlloddmaaDoor
