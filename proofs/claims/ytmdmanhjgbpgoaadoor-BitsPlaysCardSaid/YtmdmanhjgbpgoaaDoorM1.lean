/-
  Plain arithmetic of 64-bit words: the count of the one bits by Go's own masks is the count of the bits, and the product with the de Bruijn number finds the lowest one; for every word below 2^64.
-/
import Derived.Laws.BitsAllLaws
import Derived.RowKit
set_option maxHeartbeats 200000
namespace Go.Proofs.YtmdmanhjgbpgoaaDoor

/-- How many of the lowest k bits are one. -/
def popN : Nat → Nat → Nat
  | 0, _ => 0
  | k + 1, x => x % 2 + popN k (x / 2)
def pop (x : Nat) : Nat := popN 64 x

/-- A number out of its bytes, the lowest first. -/
def bval : List Nat → Nat
  | [] => 0
  | r :: l => 256 * bval l + r
def bmask (c : Nat) : Nat → Nat
  | 0 => 0
  | k + 1 => 256 * bmask c k + c

theorem and_byte (q r M c : Nat) (hr : r < 256) (hc : c < 256) : (256 * q + r) &&& (256 * M + c) = 256 * (q &&& M) + (r &&& c) := by
  have hrc : r &&& c < 256 := Nat.lt_of_le_of_lt Nat.and_le_left hr
  apply Nat.eq_of_testBit_eq
  intro i
  rw [Nat.testBit_and, show (256 : Nat) = 2 ^ 8 from rfl, Nat.testBit_two_pow_mul_add q (b := r) (i := 8) hr, Nat.testBit_two_pow_mul_add M (b := c) (i := 8) hc, Nat.testBit_two_pow_mul_add _ (i := 8) hrc]
  split <;> simp

def g1 (r : Nat) : Nat := (r / 2 &&& 85) + (r &&& 85)
def g2 (r : Nat) : Nat := (r / 4 &&& 51) + (r &&& 51)
def g3 (r : Nat) : Nat := r / 16 + r % 16

set_option maxRecDepth 100000 in
theorem d1 : ∀ r : Fin 256, ((r.1 / 2 &&& 85) = (128 + r.1 / 2 &&& 85)) ∧ g1 r.1 < 256 := by decide
set_option maxRecDepth 100000 in
theorem d2 : ∀ r : Fin 256, ((r.1 / 4 &&& 51) = (64 + r.1 / 4 &&& 51)) ∧ ((r.1 / 4 &&& 51) = (128 + r.1 / 4 &&& 51)) ∧ ((r.1 / 4 &&& 51) = (192 + r.1 / 4 &&& 51)) := by decide
set_option maxRecDepth 100000 in
theorem d3 : ∀ r : Fin 256, g2 (g1 r.1) < 256 ∧ g2 (g1 r.1) % 16 ≤ 4 ∧ g2 (g1 r.1) / 16 ≤ 4 ∧ g3 (g2 (g1 r.1)) = popN 8 r.1 ∧ popN 8 r.1 ≤ 8 := by decide

def n1 (k x : Nat) : Nat := (x / 2 &&& bmask 85 k) + (x &&& bmask 85 k)
def n2 (k x : Nat) : Nat := (x / 4 &&& bmask 51 k) + (x &&& bmask 51 k)
def n3 (k x : Nat) : Nat := (x / 16 + x) &&& bmask 15 k

theorem n1_bval : ∀ l : List Nat, (∀ r ∈ l, r < 256) → n1 l.length (bval l) = bval (l.map g1) := by
  intro l
  induction l with
  | nil => intro _; simp [n1, bval, bmask]
  | cons r l ih =>
    intro h
    have hr : r < 256 := h r (by simp)
    have ih' := ih (fun x hx => h x (by simp [hx]))
    have e1 : (256 * bval l + r) / 2 = 256 * (bval l / 2) + (128 * (bval l % 2) + r / 2) := by omega
    have hd := (d1 ⟨r, hr⟩).1
    have e2 : (128 * (bval l % 2) + r / 2) &&& 85 = r / 2 &&& 85 := by
      rcases Nat.mod_two_eq_zero_or_one (bval l) with h0 | h0 <;> rw [h0] <;> simp
      exact hd.symm
    simp only [n1, bval, bmask, List.length_cons, List.map_cons] at ih' ⊢
    rw [e1, and_byte _ _ _ _ (by omega) (by omega), and_byte _ _ _ _ hr (by omega), e2, ← ih']
    simp only [g1]; omega

theorem n2_bval : ∀ l : List Nat, (∀ r ∈ l, r < 256) → n2 l.length (bval l) = bval (l.map g2) := by
  intro l
  induction l with
  | nil => intro _; simp [n2, bval, bmask]
  | cons r l ih =>
    intro h
    have hr : r < 256 := h r (by simp)
    have ih' := ih (fun x hx => h x (by simp [hx]))
    have e1 : (256 * bval l + r) / 4 = 256 * (bval l / 4) + (64 * (bval l % 4) + r / 4) := by omega
    have hd := d2 ⟨r, hr⟩
    have e2 : (64 * (bval l % 4) + r / 4) &&& 51 = r / 4 &&& 51 := by
      have h4 : bval l % 4 = 0 ∨ bval l % 4 = 1 ∨ bval l % 4 = 2 ∨ bval l % 4 = 3 := by omega
      rcases h4 with h0 | h0 | h0 | h0 <;> rw [h0] <;> simp
      · exact hd.1.symm
      · exact hd.2.1.symm
      · exact hd.2.2.symm
    simp only [n2, bval, bmask, List.length_cons, List.map_cons] at ih' ⊢
    rw [e1, and_byte _ _ _ _ (by omega) (by omega), and_byte _ _ _ _ hr (by omega), e2, ← ih']
    simp only [g2]; omega

theorem n3_bval : ∀ l : List Nat, (∀ r ∈ l, r < 256 ∧ r % 16 ≤ 4 ∧ r / 16 ≤ 4) → n3 l.length (bval l) = bval (l.map g3) ∧ bval l % 16 ≤ 4 := by
  intro l
  induction l with
  | nil => intro _; simp [n3, bval, bmask]
  | cons r l ih =>
    intro h
    obtain ⟨hr, h1, h2⟩ := h r (by simp)
    obtain ⟨ih1, ih2⟩ := ih (fun x hx => h x (by simp [hx]))
    have e1 : (256 * bval l + r) / 16 + (256 * bval l + r) = 256 * (bval l / 16 + bval l) + (16 * (bval l % 16) + r / 16 + r) := by omega
    refine ⟨?_, by simp only [bval]; omega⟩
    simp only [n3, bval, bmask, List.length_cons, List.map_cons] at ih1 ⊢
    rw [e1, and_byte _ _ _ _ (by omega) (by omega), ih1]
    have e2 : (16 * (bval l % 16) + r / 16 + r) &&& 15 = g3 r := by
      rw [nat_mask4]; simp only [g3]; omega
    rw [e2]

theorem div_low (a z : Nat) (h : a < 256) : (a + 256 * z) / 256 = z := by omega
theorem div_low2 (a b z : Nat) (h : a < 256) (h' : b < 256) : (a + 256 * (b + 256 * z)) / 65536 = z := by omega
theorem div_low4 (a b c d z : Nat) (h : a < 256) (h' : b < 256) (h2 : c < 256) (h3 : d < 256) : (a + 256 * (b + 256 * (c + 256 * (d + 256 * z)))) / 4294967296 = z := by omega
theorem lt8 (a b c d e f g h : Nat) (ha : a < 128) (hb : b < 128) (hc : c < 128) (hd : d < 128) (he : e < 128) (hf : f < 128) (hg : g < 128) (hh : h < 128) :
    a + 256 * (b + 256 * (c + 256 * (d + 256 * (e + 256 * (f + 256 * (g + 256 * h)))))) < 18446744073709551616 ∧ (a + 256 * (b + 256 * (c + 256 * (d + 256 * (e + 256 * (f + 256 * (g + 256 * h))))))) % 128 = a := by
  generalize hz : b + 256 * (c + 256 * (d + 256 * (e + 256 * (f + 256 * (g + 256 * h))))) = z
  exact ⟨by omega, by omega⟩
theorem n4_sum (a b c d e f g h : Nat) (ha : a ≤ 8) (hb : b ≤ 8) (hc : c ≤ 8) (hd : d ≤ 8) (he : e ≤ 8) (hf : f ≤ 8) (hg : g ≤ 8) (hh : h ≤ 8) (y y1 y2 y3 : Nat)
    (hy : y = bval [a, b, c, d, e, f, g, h]) (h1 : y1 = y + y / 256) (h2 : y2 = y1 + y1 / 65536) (h3 : y3 = y2 + y2 / 4294967296) :
    y < 18446744073709551616 ∧ y1 < 18446744073709551616 ∧ y2 < 18446744073709551616 ∧ y3 < 18446744073709551616 ∧ y3 % 128 = a + b + c + d + e + f + g + h := by
  have k0 : y = a + 256 * (b + 256 * (c + 256 * (d + 256 * (e + 256 * (f + 256 * (g + 256 * h)))))) := by clear h1 h2 h3; rw [hy]; simp only [bval]; clear hy; omega
  have k1 : y1 = (a + b) + 256 * ((b + c) + 256 * ((c + d) + 256 * ((d + e) + 256 * ((e + f) + 256 * ((f + g) + 256 * ((g + h) + 256 * h)))))) := by
    rw [h1, k0, div_low _ _ (by clear k0 h1 h2 h3 hy; omega)]; clear k0 h1 h2 h3 hy; omega
  have k2 : y2 = (a + b + c + d) + 256 * ((b + c + d + e) + 256 * ((c + d + e + f) + 256 * ((d + e + f + g) + 256 * ((e + f + g + h) + 256 * ((f + g + h) + 256 * ((g + h) + 256 * h)))))) := by
    rw [h2, k1, div_low2 _ _ _ (by clear k0 k1 h1 h2 h3 hy; omega) (by clear k0 k1 h1 h2 h3 hy; omega)]; clear k0 k1 h1 h2 h3 hy; omega
  have k3 : y3 = (a + b + c + d + e + f + g + h) + 256 * ((b + c + d + e + f + g + h) + 256 * ((c + d + e + f + g + h) + 256 * ((d + e + f + g + h) + 256 * ((e + f + g + h) + 256 * ((f + g + h) + 256 * ((g + h) + 256 * h)))))) := by
    rw [h3, k2, div_low4 _ _ _ _ _ (by clear k0 k1 k2 h1 h2 h3 hy; omega) (by clear k0 k1 k2 h1 h2 h3 hy; omega) (by clear k0 k1 k2 h1 h2 h3 hy; omega) (by clear k0 k1 k2 h1 h2 h3 hy; omega)]; clear k0 k1 k2 h1 h2 h3 hy; omega
  clear h1 h2 h3 hy
  refine ⟨?_, ?_, ?_, ?_, ?_⟩
  · rw [k0]; clear k0 k1 k2 k3; exact (lt8 _ _ _ _ _ _ _ _ (by omega) (by omega) (by omega) (by omega) (by omega) (by omega) (by omega) (by omega)).1
  · rw [k1]; clear k0 k1 k2 k3; exact (lt8 _ _ _ _ _ _ _ _ (by omega) (by omega) (by omega) (by omega) (by omega) (by omega) (by omega) (by omega)).1
  · rw [k2]; clear k0 k1 k2 k3; exact (lt8 _ _ _ _ _ _ _ _ (by omega) (by omega) (by omega) (by omega) (by omega) (by omega) (by omega) (by omega)).1
  · rw [k3]; clear k0 k1 k2 k3; exact (lt8 _ _ _ _ _ _ _ _ (by omega) (by omega) (by omega) (by omega) (by omega) (by omega) (by omega) (by omega)).1
  · rw [k3]; clear k0 k1 k2 k3; exact (lt8 _ _ _ _ _ _ _ _ (by omega) (by omega) (by omega) (by omega) (by omega) (by omega) (by omega) (by omega)).2

/-- The eight bytes of a word. -/
def bytes8 (x : Nat) : List Nat := [x % 256, x / 256 % 256, x / 65536 % 256, x / 16777216 % 256, x / 4294967296 % 256, x / 1099511627776 % 256, x / 281474976710656 % 256, x / 72057594037927936 % 256]
theorem bval_bytes8 (x : Nat) (h : x < 18446744073709551616) : bval (bytes8 x) = x := by
  have e1 : x / 65536 = x / 256 / 256 := by rw [Nat.div_div_eq_div_mul]
  have e2 : x / 16777216 = x / 256 / 256 / 256 := by simp only [Nat.div_div_eq_div_mul]
  have e3 : x / 4294967296 = x / 256 / 256 / 256 / 256 := by simp only [Nat.div_div_eq_div_mul]
  have e4 : x / 1099511627776 = x / 256 / 256 / 256 / 256 / 256 := by simp only [Nat.div_div_eq_div_mul]
  have e5 : x / 281474976710656 = x / 256 / 256 / 256 / 256 / 256 / 256 := by simp only [Nat.div_div_eq_div_mul]
  have e6 : x / 72057594037927936 = x / 256 / 256 / 256 / 256 / 256 / 256 / 256 := by simp only [Nat.div_div_eq_div_mul]
  have hl : x / 256 / 256 / 256 / 256 / 256 / 256 / 256 < 256 := by rw [← e6]; omega
  simp only [bytes8, bval, e1, e2, e3, e4, e5, e6]
  clear e1 e2 e3 e4 e5 e6 h
  have m0 := Nat.div_add_mod x 256
  have m1 := Nat.div_add_mod (x / 256) 256
  have m2 := Nat.div_add_mod (x / 256 / 256) 256
  have m3 := Nat.div_add_mod (x / 256 / 256 / 256) 256
  have m4 := Nat.div_add_mod (x / 256 / 256 / 256 / 256) 256
  have m5 := Nat.div_add_mod (x / 256 / 256 / 256 / 256 / 256) 256
  have m6 := Nat.div_add_mod (x / 256 / 256 / 256 / 256 / 256 / 256) 256
  have m7 := Nat.mod_eq_of_lt hl
  rw [m7, Nat.mul_zero, Nat.zero_add, m6, m5, m4, m3, m2, m1, m0]
theorem bytes8_lt (x : Nat) : ∀ r ∈ bytes8 x, r < 256 := by
  intro r hr
  simp only [bytes8, List.mem_cons, List.not_mem_nil, or_false] at hr
  rcases hr with rfl | rfl | rfl | rfl | rfl | rfl | rfl | rfl <;> exact Nat.mod_lt _ (by decide)
theorem popN_split (k x : Nat) : popN (8 + k) x = popN 8 (x % 256) + popN k (x / 256) := by
  rw [show 8 + k = k + 1 + 1 + 1 + 1 + 1 + 1 + 1 + 1 by omega]
  simp only [popN]
  have e : x / 2 / 2 / 2 / 2 / 2 / 2 / 2 / 2 = x / 256 := by omega
  rw [e]; omega
theorem pop_bytes (x : Nat) : pop x = popN 8 (x % 256) + (popN 8 (x / 256 % 256) + (popN 8 (x / 65536 % 256) + (popN 8 (x / 16777216 % 256) + (popN 8 (x / 4294967296 % 256) + (popN 8 (x / 1099511627776 % 256) + (popN 8 (x / 281474976710656 % 256) + popN 8 (x / 72057594037927936 % 256))))))) := by
  unfold pop
  rw [show 64 = 8 + (8 + (8 + (8 + (8 + (8 + (8 + (8 + 0))))))) by rfl]
  simp only [popN_split]
  simp only [popN, Nat.div_div_eq_div_mul, Nat.add_zero]

/-- Go's own steps, over naturals. -/
def swar (x : Nat) : Nat :=
  let y := n3 8 (n2 8 (n1 8 x))
  let y1 := y + y / 256
  let y2 := y1 + y1 / 65536
  let y3 := y2 + y2 / 4294967296
  y3 % 128
theorem swar_all (x : Nat) (h : x < 18446744073709551616) :
    let y := n3 8 (n2 8 (n1 8 x))
    let y1 := y + y / 256
    let y2 := y1 + y1 / 65536
    let y3 := y2 + y2 / 4294967296
    n1 8 x < 18446744073709551616 ∧ n2 8 (n1 8 x) < 18446744073709551616 ∧ n2 8 (n1 8 x) / 16 + n2 8 (n1 8 x) < 18446744073709551616 ∧ y < 18446744073709551616 ∧ y1 < 18446744073709551616 ∧ y2 < 18446744073709551616 ∧ y3 < 18446744073709551616 ∧ y3 % 128 = pop x := by
  intro y y1 y2 y3
  have hb := bytes8_lt x
  have e1 : n1 8 x = bval ((bytes8 x).map g1) := by
    have := n1_bval (bytes8 x) hb
    rw [bval_bytes8 x h] at this; exact this
  have hb1 : ∀ r ∈ (bytes8 x).map g1, r < 256 := by
    intro r hr
    obtain ⟨s, hs, rfl⟩ := List.mem_map.1 hr
    exact (d1 ⟨s, hb s hs⟩).2
  have e2 : n2 8 (n1 8 x) = bval (((bytes8 x).map g1).map g2) := by
    rw [e1]; exact n2_bval _ hb1
  have hb2 : ∀ r ∈ ((bytes8 x).map g1).map g2, r < 256 ∧ r % 16 ≤ 4 ∧ r / 16 ≤ 4 := by
    intro r hr
    obtain ⟨s, hs, rfl⟩ := List.mem_map.1 hr
    obtain ⟨t, ht, rfl⟩ := List.mem_map.1 hs
    have := d3 ⟨t, hb t ht⟩
    exact ⟨this.1, this.2.1, this.2.2.1⟩
  have e3 : y = bval ((((bytes8 x).map g1).map g2).map g3) := by
    show n3 8 (n2 8 (n1 8 x)) = _
    rw [e2]; exact (n3_bval _ hb2).1
  have q : ∀ t, t < 256 → g3 (g2 (g1 t)) = popN 8 t ∧ popN 8 t ≤ 8 := fun t ht => ⟨(d3 ⟨t, ht⟩).2.2.2.1, (d3 ⟨t, ht⟩).2.2.2.2⟩
  have p0 := q (x % 256) (by omega)
  have p1 := q (x / 256 % 256) (by omega)
  have p2 := q (x / 65536 % 256) (by omega)
  have p3 := q (x / 16777216 % 256) (by omega)
  have p4 := q (x / 4294967296 % 256) (by omega)
  have p5 := q (x / 1099511627776 % 256) (by omega)
  have p6 := q (x / 281474976710656 % 256) (by omega)
  have p7 := q (x / 72057594037927936 % 256) (by omega)
  have e4 : y = bval [popN 8 (x % 256), popN 8 (x / 256 % 256), popN 8 (x / 65536 % 256), popN 8 (x / 16777216 % 256), popN 8 (x / 4294967296 % 256), popN 8 (x / 1099511627776 % 256), popN 8 (x / 281474976710656 % 256), popN 8 (x / 72057594037927936 % 256)] := by
    rw [e3]
    simp only [bytes8, List.map_cons, List.map_nil, p0.1, p1.1, p2.1, p3.1, p4.1, p5.1, p6.1, p7.1]
  have hs := n4_sum _ _ _ _ _ _ _ _ p0.2 p1.2 p2.2 p3.2 p4.2 p5.2 p6.2 p7.2 y y1 y2 y3 e4 rfl rfl rfl
  have l1 : n1 8 x < 18446744073709551616 := by
    rw [e1]
    have := hb1
    simp only [bytes8, List.map_cons, List.map_nil, List.mem_cons, List.not_mem_nil, or_false, forall_eq_or_imp, forall_eq] at this
    obtain ⟨a0, a1, a2, a3, a4, a5, a6, a7⟩ := this
    simp only [bytes8, List.map_cons, List.map_nil, bval]
    omega
  have l2 : n2 8 (n1 8 x) / 16 + n2 8 (n1 8 x) < 18446744073709551616 := by
    rw [e2]
    have := hb2
    simp only [bytes8, List.map_cons, List.map_nil, List.mem_cons, List.not_mem_nil, or_false, forall_eq_or_imp, forall_eq] at this
    obtain ⟨a0, a1, a2, a3, a4, a5, a6, a7⟩ := this
    simp only [bytes8, List.map_cons, List.map_nil, bval]
    omega
  refine ⟨l1, by omega, l2, hs.1, hs.2.1, hs.2.2.1, hs.2.2.2.1, ?_⟩
  rw [hs.2.2.2.2, pop_bytes]; omega
theorem pop_le (x : Nat) : pop x ≤ 64 := by
  have p : ∀ t, t < 256 → popN 8 t ≤ 8 := fun t ht => (d3 ⟨t, ht⟩).2.2.2.2
  rw [pop_bytes]
  have p0 := p (x % 256) (by omega)
  have p1 := p (x / 256 % 256) (by omega)
  have p2 := p (x / 65536 % 256) (by omega)
  have p3 := p (x / 16777216 % 256) (by omega)
  have p4 := p (x / 4294967296 % 256) (by omega)
  have p5 := p (x / 1099511627776 % 256) (by omega)
  have p6 := p (x / 281474976710656 % 256) (by omega)
  have p7 := p (x / 72057594037927936 % 256) (by omega)
  omega

/-! ### The lowest one bit -/
/-- k is the lowest place at which x has a one. -/
def Low (x k : Nat) : Prop := x % 2 ^ (k + 1) = 2 ^ k
theorem low_form {x k : Nat} (h : Low x k) : ∃ m, x = 2 ^ k * (2 * m + 1) := by
  refine ⟨x / 2 ^ (k + 1), ?_⟩
  have := Nat.div_add_mod x (2 ^ (k + 1))
  rw [h] at this
  rw [Nat.mul_add, Nat.mul_one, ← Nat.mul_assoc, ← Nat.pow_succ]
  exact this.symm
theorem and_neg {x k : Nat} (hk : k < 64) (h : Low x k) (hx : x < 18446744073709551616) : x &&& (18446744073709551616 - x) = 2 ^ k := by
  obtain ⟨m, rfl⟩ := low_form h
  have e64 : (18446744073709551616 : Nat) = 2 ^ k * (2 * 2 ^ (63 - k)) := by
    rw [← Nat.pow_succ', ← Nat.pow_add, show k + (63 - k + 1) = 64 by omega]
  have hm : 2 * m + 1 < 2 * 2 ^ (63 - k) := by
    rw [e64] at hx
    exact Nat.lt_of_mul_lt_mul_left hx
  have hm' : m < 2 ^ (63 - k) := by omega
  have e2 : 18446744073709551616 - 2 ^ k * (2 * m + 1) = 2 ^ k * (2 * (2 ^ (63 - k) - (m + 1)) + 1) := by
    rw [e64, ← Nat.mul_sub]
    congr 1; omega
  rw [e2]
  apply Nat.eq_of_testBit_eq
  intro i
  rw [Nat.testBit_and, Nat.testBit_two_pow_mul, Nat.testBit_two_pow_mul, Nat.testBit_two_pow]
  by_cases hi : k ≤ i
  · rcases Nat.eq_or_lt_of_le hi with rfl | hlt
    · simp
    · obtain ⟨j, rfl⟩ : ∃ j, i = k + (j + 1) := ⟨i - k - 1, by omega⟩
      have hs : k + (j + 1) - k = j + 1 := by omega
      have hd : decide (k = k + (j + 1)) = false := by simp
      rw [hs, hd]
      have f : ∀ n, (2 * n + 1).testBit (j + 1) = n.testBit j := by
        intro n; rw [Nat.testBit_succ]; congr 1; omega
      rw [f, f, Nat.testBit_two_pow_sub_succ hm']
      cases m.testBit j <;> simp
  · simp [hi]; omega

def dbTab : List Nat := [0, 1, 56, 2, 57, 49, 28, 3, 61, 58, 42, 50, 38, 29, 17, 4, 62, 47, 59, 36, 45, 43, 51, 22, 53, 39, 33, 30, 24, 18, 12, 5, 63, 55, 48, 27, 60, 41, 37, 16, 46, 35, 44, 21, 52, 32, 23, 11, 54, 26, 40, 15, 34, 20, 31, 10, 25, 14, 19, 9, 13, 8, 7, 6]
set_option maxRecDepth 100000 in
theorem db_get : ∀ k : Fin 64, dbTab.getD (2 ^ k.1 * 285870213051353865 % 18446744073709551616 / 288230376151711744) 0 = k.1 ∧ 2 ^ k.1 * 285870213051353865 % 18446744073709551616 / 288230376151711744 < 64 := by decide +kernel

end Go.Proofs.YtmdmanhjgbpgoaaDoor
