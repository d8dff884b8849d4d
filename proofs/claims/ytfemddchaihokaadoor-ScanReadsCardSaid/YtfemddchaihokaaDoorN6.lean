/-
  ScanReads, walked.
-/
import Derived.Test.YtfemddchaihokaaDoorR6
import Derived.Deep.RegionHeld3
import Derived.Deep.DeepCutAuto
namespace Go.Proofs.YtfemddchaihokaaDoor
open Go.RowKit

theorem new_er {s : ByteArray} {x p : Nat} (w : World) (hG : GlobS w) (hs : s.size ≤ 65536) (h : toks s.data.toList = .error (x, p)) :
    Calls Tryd.prog 14 #[.string s] w fun e w' => ∃ b, e = .returned (.tuple #[.pointer none, .iface 60 (.pointer (some ⟨b, 0, none⟩))]) ∧ x ≠ 0 ∧ AtE w' b p x ∧ Below w.heap.size w w' := by
  have H := Lib.hid (tokens_er w hG hs h)
  clear hG h
  go_enter Tryd.func14, Tryd.ntmps14
  go_wp2_with fail
  with_reducible refine (H.out).mono ?_
  rintro e w1 ⟨b, rfl, _, hx, hA, hb⟩
  go_wp2
  go_ret2
  exact ⟨b, rfl, hx, hA, hb⟩

/-- A list of calls that came in. -/
def AR (w : World) (v : Value) (ls : List (Int × ByteArray)) : Prop :=
  ∃ ad cap, v = .slice ad ls.length cap ∧ ∀ k (hk : k < ls.length), ∃ p : Addr, ad = some p ∧ p.spot = none ∧ w.cell? ⟨p.block, p.off + k * 2, none⟩ = some (.int .i64 ls[k].1) ∧ w.cell? ⟨p.block, p.off + (k * 2 + 1), none⟩ = some (.string ls[k].2)
theorem AR.below {w w' : World} {v : Value} {ls : List (Int × ByteArray)} (h : AR w v ls) (hb : Below w.heap.size w w') : AR w' v ls := by
  obtain ⟨ad, cap, rfl, h⟩ := h
  refine ⟨ad, cap, rfl, fun k hk => ?_⟩
  obtain ⟨p, e, hs, h0, h1⟩ := h k hk
  exact ⟨p, e, hs, (hb.cell (World.block_lt_of_cell? w _ h0)).trans h0, (hb.cell (World.block_lt_of_cell? w _ h1)).trans h1⟩

set_option maxRecDepth 100000 in
theorem reads_long (s : ByteArray) (ad : Option Addr) (n cap : Nat) (w : World) (hG : GlobS w) (h : 3000 < s.size ∨ 200 < n) : Calls Tryd.prog 4 #[.string s, .slice ad n cap] w (LawF w) := by
  have H0 := Lib.hid (alive_yes w hG)
  clear hG
  by_cases h1 : 3000 < s.size
  · have g1 : decide (3000 < (s.size : Int)) = true := by simp; omega
    clear h
    go_enter Tryd.func4, Tryd.ntmps4
    go_wp2_with fail
    with_reducible refine (H0.out).mono ?_
    rintro e w1 ⟨rfl, hb1⟩
    go_wp2
    go_ret
    exact ⟨rfl, hb1⟩
  · have g1 : decide (3000 < (s.size : Int)) = false := by simp; omega
    have g2 : decide (200 < (n : Int)) = true := by simp; omega
    clear h
    go_enter Tryd.func4, Tryd.ntmps4
    go_wp2_with fail
    with_reducible refine (H0.out).mono ?_
    rintro e w1 ⟨rfl, hb1⟩
    go_wp2
    go_ret
    exact ⟨rfl, hb1⟩

set_option maxRecDepth 100000 in
set_option maxHeartbeats 2000000 in
theorem reads_er (s : ByteArray) (ad : Option Addr) (n cap : Nat) (w : World) (hG : GlobS w) (h3 : s.size ≤ 3000) (hn : n ≤ 200) {x p : Nat} (h : toks s.data.toList = .error (x, p)) : Calls Tryd.prog 4 #[.string s, .slice ad n cap] w (LawF w) := by
  have H0 := Lib.hid (alive_yes w hG)
  have H1 := Lib.hid (fun (W : World) (hW : GlobS W) => new_er W hW (by omega) h)
  have H2 := Lib.hid (fun (W : World) => rtokens_er W (by omega) h)
  have HG := Lib.hid hG
  have g1 : decide (3000 < (s.size : Int)) = false := by simp; omega
  have g2 : decide (200 < (n : Int)) = false := by simp; omega
  have g3 : ((x : Int) == (x : Int)) = true := by simp
  clear hG h
  go_enter Tryd.func4, Tryd.ntmps4
  go_wp2_with fail
  with_reducible refine (H0.out).mono ?_
  rintro e w1 ⟨rfl, hb1⟩
  have H1' := Lib.hid (H1.out w1 (HG.out.below hb1))
  have HB1 := Lib.hid hb1
  clear hb1
  go_wp2_with fail
  with_reducible refine (H1'.out).mono ?_
  rintro e w2 ⟨b, rfl, hx0, hA, hb2⟩
  have HA2 := Lib.hid hA
  have HB2 := Lib.hid (HB1.out.trans (hb2.mono HB1.out.size))
  have g4 : ((x : Int) != 0) = true := by rw [bne_iff_ne]; omega
  clear hA hb2 hx0
  go_wp2_with fail
  with_reducible refine (H2.out w2).mono ?_
  rintro e w3 ⟨rfl, hb3⟩
  have HA3 := Lib.hid (HA2.out.below hb3)
  have HB3 := Lib.hid (HB2.out.trans (hb3.mono HB2.out.size))
  have H3 := Lib.hid (num_at b p x w3 (HG.out.below HB3.out).glob HA3.out)
  clear hb3
  go_wp2_with fail
  with_reducible refine (H3.out).mono ?_
  rintro e w4 ⟨rfl, hb4⟩
  have HB4 := Lib.hid (HB3.out.trans (hb4.mono HB3.out.size))
  clear hb4
  go_wp2
  go_ret
  exact ⟨rfl, HB4.out⟩

def RdRel (w : World) (ts : List Tok) (n na rb gm cm : Nat) (a i : Value) (wr : World) : Prop :=
  ∃ k j : Nat, a = .int .i64 (k : Int) ∧ i = .int .i64 (j : Int) ∧ j ≤ na ∧ k < n ∧ RD wr rb ts k ∧ wr.ownsRow 0 33 3 (.slice (some ⟨gm, 0, none⟩) n cm) n (cellsT ts) ∧ GlobS wr ∧ Below w.heap.size w wr

section
variable {w : World} {ts : List Tok} {n rb gm cm tb k : Nat} {t : Tok} {wr : World}
theorem Lk.start (hR : RD wr rb ts k) (ho : wr.ownsRow 0 33 3 (.slice (some ⟨gm, 0, none⟩) n cm) n (cellsT ts)) (hG : GlobS wr) (hb : Below w.heap.size w wr) (hrb : w.heap.size ≤ rb) (t : Tok) {x : ByteArray} (hx : x = ⟨t.text.toArray⟩) :
    Lk w ts n rb gm cm wr.heap.size k t (wr.alloc (.cells #[.int .i64 t.kind, .string x, .int .i64 t.pos] 33)) := by
  have hba : Below wr.heap.size wr (wr.alloc (.cells #[.int .i64 t.kind, .string x, .int .i64 t.pos] 33)) := (Below.refl _ _).alloc (Nat.le_refl _) _
  have hl := hR.lt
  subst hx
  exact ⟨hR.below hba, ho.alloc _, hG.below hba, hb.alloc hb.size _, by simp, by simp, by simp, by omega, hrb⟩
theorem Lk.peek (h : Lk w ts n rb gm cm tb k t wr) (ht : ts[k]? = some t) : Calls Tryd.prog 15 #[.pointer (some ⟨rb, 0, none⟩)] wr fun e w' => e = .returned (.agg #[.int .i64 t.kind, .string ⟨t.text.toArray⟩, .int .i64 t.pos]) ∧ Lk w ts n rb gm cm tb k t w' :=
  (peek_at h.rd ht).mono fun _ _ ⟨he, hb⟩ => ⟨he, h.below hb⟩
theorem Lk.take_end (h : Lk w ts n rb gm cm tb k t wr) (ht : ts[k]? = some t) (h0 : t.kind = 0) : Calls Tryd.prog 16 #[.pointer (some ⟨rb, 0, none⟩)] wr fun e w' => e = .returned (.agg #[.int .i64 t.kind, .string ⟨t.text.toArray⟩, .int .i64 t.pos]) ∧ Lk w ts n rb gm cm tb k t w' :=
  (Go.Proofs.YtfemddchaihokaaDoor.take_end (peeks_at h.rd ht) h0).mono fun _ _ ⟨he, hb⟩ => ⟨he, h.below hb⟩
theorem Lk.take_on (h : Lk w ts n rb gm cm tb k t wr) (ht : ts[k]? = some t) (h0 : t.kind ≠ 0) (hk : k + 1 < ts.length) : Calls Tryd.prog 16 #[.pointer (some ⟨rb, 0, none⟩)] wr fun e w' => e = .returned (.agg #[.int .i64 t.kind, .string ⟨t.text.toArray⟩, .int .i64 t.pos]) ∧ Lk w ts n rb gm cm tb (k + 1) t w' :=
  (Go.Proofs.YtfemddchaihokaaDoor.take_on h.rd ht h0 hk).mono fun _ _ ⟨he, hR, hg⟩ => ⟨he, h.grown hR hg⟩
theorem Lk.is_ (h : Lk w ts n rb gm cm tb k t wr) (ht : ts[k]? = some t) (x : ByteArray) : Calls Tryd.prog 17 #[.pointer (some ⟨rb, 0, none⟩), .string x] wr fun e w' => e = .returned (.bool (isB t x.data.toList)) ∧ Lk w ts n rb gm cm tb k t w' :=
  (is_any x (peeks_at h.rd ht)).mono fun _ _ ⟨he, hb⟩ => ⟨he, h.below hb⟩
theorem Lk.skip_no (h : Lk w ts n rb gm cm tb k t wr) (ht : ts[k]? = some t) (x : ByteArray) (hi : isB t x.data.toList = false) : Calls Tryd.prog 18 #[.pointer (some ⟨rb, 0, none⟩), .string x] wr fun e w' => e = .returned (.bool false) ∧ Lk w ts n rb gm cm tb k t w' :=
  (Go.Proofs.YtfemddchaihokaaDoor.skip_no x (peeks_at h.rd ht) hi).mono fun _ _ ⟨he, hb⟩ => ⟨he, h.below hb⟩
theorem Lk.skip_yes (h : Lk w ts n rb gm cm tb k t wr) (ht : ts[k]? = some t) (x : ByteArray) (hi : isB t x.data.toList = true) (hk : k + 1 < ts.length) : Calls Tryd.prog 18 #[.pointer (some ⟨rb, 0, none⟩), .string x] wr fun e w' => e = .returned (.bool true) ∧ Lk w ts n rb gm cm tb (k + 1) t w' :=
  (Go.Proofs.YtfemddchaihokaaDoor.skip_yes x h.rd ht hi hk).mono fun _ _ ⟨he, hR, hg⟩ => ⟨he, h.grown hR hg⟩
theorem Lk.want_no (h : Lk w ts n rb gm cm tb k t wr) (ht : ts[k]? = some t) (x : ByteArray) (hi : isB t x.data.toList = false) : Calls Tryd.prog 19 #[.pointer (some ⟨rb, 0, none⟩), .string x] wr fun e w' => ∃ b, e = .returned (.iface 60 (.pointer (some ⟨b, 0, none⟩))) ∧ AtE w' b t.pos 20 ∧ Lk w ts n rb gm cm tb k t w' :=
  (Go.Proofs.YtfemddchaihokaaDoor.want_no x (peeks_at h.rd ht) hi).mono fun _ _ ⟨b, he, _, hA, hb⟩ => ⟨b, he, hA, h.below hb⟩
theorem Lk.want_yes (h : Lk w ts n rb gm cm tb k t wr) (ht : ts[k]? = some t) (x : ByteArray) (hi : isB t x.data.toList = true) (hk : k + 1 < ts.length) : Calls Tryd.prog 19 #[.pointer (some ⟨rb, 0, none⟩), .string x] wr fun e w' => e = .returned .nilIface ∧ Lk w ts n rb gm cm tb (k + 1) t w' :=
  (Go.Proofs.YtfemddchaihokaaDoor.want_yes x h.rd ht hi hk).mono fun _ _ ⟨he, hR, hg⟩ => ⟨he, h.grown hR hg⟩
theorem Lk.name_no (h : Lk w ts n rb gm cm tb k t wr) (ht : ts[k]? = some t) (hk : t.kind ≠ 1) : Calls Tryd.prog 20 #[.pointer (some ⟨rb, 0, none⟩)] wr fun e w' => ∃ b, e = .returned (.tuple #[.string ⟨#[]⟩, .iface 60 (.pointer (some ⟨b, 0, none⟩))]) ∧ AtE w' b t.pos 20 ∧ Lk w ts n rb gm cm tb k t w' :=
  (Go.Proofs.YtfemddchaihokaaDoor.name_no (peeks_at h.rd ht) hk).mono fun _ _ ⟨b, he, _, hA, hb⟩ => ⟨b, he, hA, h.below hb⟩
theorem Lk.name_yes (h : Lk w ts n rb gm cm tb k t wr) (ht : ts[k]? = some t) (hkd : t.kind = 1) (hk : k + 1 < ts.length) : Calls Tryd.prog 20 #[.pointer (some ⟨rb, 0, none⟩)] wr fun e w' => e = .returned (.tuple #[.string ⟨t.text.toArray⟩, .nilIface]) ∧ Lk w ts n rb gm cm tb (k + 1) t w' :=
  (Go.Proofs.YtfemddchaihokaaDoor.name_yes h.rd ht hkd hk).mono fun _ _ ⟨he, hR, hg⟩ => ⟨he, h.grown hR hg⟩
theorem Lk.number_no (h : Lk w ts n rb gm cm tb k t wr) (ht : ts[k]? = some t) (hk : t.kind ≠ 2) : Calls Tryd.prog 21 #[.pointer (some ⟨rb, 0, none⟩)] wr fun e w' => ∃ b, e = .returned (.tuple #[.int .i64 0, .iface 60 (.pointer (some ⟨b, 0, none⟩))]) ∧ AtE w' b t.pos 20 ∧ Lk w ts n rb gm cm tb k t w' :=
  (Go.Proofs.YtfemddchaihokaaDoor.number_no (peeks_at h.rd ht) hk).mono fun _ _ ⟨b, he, _, hA, hb⟩ => ⟨b, he, hA, h.below hb⟩
theorem Lk.number_yes (h : Lk w ts n rb gm cm tb k t wr) (ht : ts[k]? = some t) (hkd : t.kind = 2) (hk : k + 1 < ts.length) (hs : t.text.length ≤ 65536) (h0 : t.text ≠ []) (hd : ∀ c ∈ t.text, digitB c = true) (hv : valOf t.text < 9223372036854775808) :
    Calls Tryd.prog 21 #[.pointer (some ⟨rb, 0, none⟩)] wr fun e w' => e = .returned (.tuple #[.int .i64 (valOf t.text), .nilIface]) ∧ Lk w ts n rb gm cm tb (k + 1) t w' :=
  (Go.Proofs.YtfemddchaihokaaDoor.number_yes h.glob h.rd ht hkd hk hs h0 hd hv).mono fun _ _ ⟨he, hR, hg⟩ => ⟨he, h.grown hR hg⟩
theorem Lk.num (h : Lk w ts n rb gm cm tb k t wr) {b : Nat} {p : Int} (hA : AtE wr b p 20) : Calls Tryd.prog 12 #[.iface 60 (.pointer (some ⟨b, 0, none⟩))] wr fun e w' => e = .returned (.int .i64 20) ∧ AtE w' b p 20 ∧ Lk w ts n rb gm cm tb k t w' :=
  (num_at b p 20 wr h.glob.glob hA).mono fun _ _ ⟨he, hb⟩ => ⟨he, hA.below hb, h.below hb⟩
theorem Lk.pos_ (h : Lk w ts n rb gm cm tb k t wr) {b : Nat} {p : Int} (hA : AtE wr b p 20) : Calls Tryd.prog 13 #[.iface 60 (.pointer (some ⟨b, 0, none⟩))] wr fun e w' => e = .returned (.int .i64 p) ∧ AtE w' b p 20 ∧ Lk w ts n rb gm cm tb k t w' :=
  (pos_at b p 20 wr h.glob.glob hA).mono fun _ _ ⟨he, hb⟩ => ⟨he, hA.below hb, h.below hb⟩
end
end Go.Proofs.YtfemddchaihokaaDoor
