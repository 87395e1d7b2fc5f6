/- The parity of math/bits.OnesCount64. -/
import Derived.Test.YtodiokladojnjaaBRow
import Derived.Test.YtodiokladojnjaaBMath
namespace Go.Proofs.Ytodiokladojnjaa.B
open Go Go.RowKit Go.Shelf

theorem and_split (e a y m n : Nat) (ha : a < 2 ^ e) (hm : m < 2 ^ e) : (a + 2 ^ e * y) &&& (m + 2 ^ e * n) = (a &&& m) + 2 ^ e * (y &&& n) := by
  have hl : a &&& m < 2 ^ e := Nat.lt_of_le_of_lt Nat.and_le_left ha
  apply Nat.eq_of_testBit_eq
  intro i
  rw [Nat.testBit_and, Nat.add_comm a, Nat.add_comm m, Nat.add_comm (a &&& m), Nat.testBit_two_pow_mul_add _ ha, Nat.testBit_two_pow_mul_add _ hm, Nat.testBit_two_pow_mul_add _ hl]
  split
  · rw [Nat.testBit_and]
  · rw [Nat.testBit_and]
theorem and_16 (a y m n : Nat) (ha : a < 16) (hm : m < 16) : (a + 16 * y) &&& (m + 16 * n) = (a &&& m) + 16 * (y &&& n) := and_split 4 a y m n ha hm
theorem and_256 (a y n : Nat) (ha : a < 256) : (a + 256 * y) &&& (15 + 256 * n) = a % 16 + 256 * (y &&& n) := by
  have h : ∀ a : Fin 256, a.val &&& 15 = a.val % 16 := by decide +kernel
  rw [show (a + 256 * y) &&& (15 + 256 * n) = (a &&& 15) + 256 * (y &&& n) from and_split 8 a y 15 n ha (by decide), h ⟨a, ha⟩]

def m5 : Nat → Nat
  | 0 => 0
  | k + 1 => 5 + 16 * m5 k
def m3 : Nat → Nat
  | 0 => 0
  | k + 1 => 3 + 16 * m3 k
def p1 (b : Nat) : Nat := (b / 2 &&& 5) + (b &&& 5)
def pc (b : Nat) : Nat := b % 2 + b / 2 % 2 + b / 4 % 2 + b / 8 % 2
def f1 : Nat → Nat → Nat
  | 0, _ => 0
  | k + 1, x => p1 (x % 16) + 16 * f1 k (x / 16)
def f2 : Nat → Nat → Nat
  | 0, _ => 0
  | k + 1, x => pc (x % 16) + 16 * f2 k (x / 16)
theorem p1_a : ∀ b : Fin 16, ∀ t : Fin 2, ((b.val + 16 * t.val) / 2 &&& 5) + (b.val &&& 5) = p1 b.val := by decide +kernel
theorem p1_b : ∀ b : Fin 16, p1 b.val < 16 := by decide +kernel
theorem pc_a : ∀ b : Fin 16, ∀ t : Fin 4, ((p1 b.val + 16 * t.val) / 4 &&& 3) + (p1 b.val &&& 3) = pc b.val := by decide +kernel
theorem f1_is (k : Nat) : ∀ x, (x / 2 &&& m5 k) + (x &&& m5 k) = f1 k x := by
  induction k with
  | zero => intro x; simp [m5, f1]
  | succ k ih =>
    intro x
    have hb : x % 16 < 16 := Nat.mod_lt _ (by decide)
    have ht : x / 16 % 2 < 2 := Nat.mod_lt _ (by decide)
    have e1 : x / 2 = (x % 16 + 16 * (x / 16 % 2)) / 2 + 16 * (x / 16 / 2) := by omega
    have e2 : x = x % 16 + 16 * (x / 16) := by omega
    have h1 : x / 2 &&& m5 (k + 1) = ((x % 16 + 16 * (x / 16 % 2)) / 2 &&& 5) + 16 * (x / 16 / 2 &&& m5 k) := by
      rw [e1, show m5 (k + 1) = 5 + 16 * m5 k from rfl, and_16 _ _ _ _ (by omega) (by decide)]
    have h2 : x &&& m5 (k + 1) = (x % 16 &&& 5) + 16 * (x / 16 &&& m5 k) := by
      conv => lhs; rw [e2, show m5 (k + 1) = 5 + 16 * m5 k from rfl]
      rw [and_16 _ _ _ _ hb (by decide)]
    have h3 := p1_a ⟨x % 16, hb⟩ ⟨x / 16 % 2, ht⟩
    simp only at h3
    have h4 := ih (x / 16)
    rw [h1, h2]
    show _ = p1 (x % 16) + 16 * f1 k (x / 16)
    omega
theorem f2_is (k : Nat) : ∀ x, (f1 k x / 4 &&& m3 k) + (f1 k x &&& m3 k) = f2 k x := by
  induction k with
  | zero => intro x; simp [m3, f2, f1]
  | succ k ih =>
    intro x
    have hx : x % 16 < 16 := Nat.mod_lt _ (by decide)
    have hb := p1_b ⟨x % 16, hx⟩
    simp only at hb
    have h4 := ih (x / 16)
    show ((p1 (x % 16) + 16 * f1 k (x / 16)) / 4 &&& m3 (k + 1)) + ((p1 (x % 16) + 16 * f1 k (x / 16)) &&& m3 (k + 1)) = pc (x % 16) + 16 * f2 k (x / 16)
    generalize f1 k (x / 16) = u at h4 ⊢
    have ht : u % 4 < 4 := Nat.mod_lt _ (by decide)
    have h3 := pc_a ⟨x % 16, hx⟩ ⟨u % 4, ht⟩
    simp only at h3
    generalize p1 (x % 16) = b at hb h3 ⊢
    have e1 : (b + 16 * u) / 4 = (b + 16 * (u % 4)) / 4 + 16 * (u / 4) := by omega
    rw [e1, show m3 (k + 1) = 3 + 16 * m3 k from rfl, and_16 _ _ _ _ (by omega) (by decide), and_16 _ _ _ _ hb (by decide)]
    omega
theorem pc_le (b : Nat) : pc b ≤ 4 := by unfold pc; omega
theorem f1_lt (k x : Nat) : f1 k x < 16 ^ k := by
  induction k generalizing x with
  | zero => show 0 < 1; decide
  | succ k ih =>
    have := ih (x / 16)
    have hb := p1_b ⟨x % 16, Nat.mod_lt _ (by decide)⟩
    simp only at hb
    show p1 (x % 16) + 16 * f1 k (x / 16) < 16 ^ (k + 1)
    rw [Nat.pow_succ]
    omega
def S : Nat → Nat → Nat
  | 0, _ => 0
  | k + 1, x => pc (x % 16) + S k (x / 16)

def m15 : Nat → Nat
  | 0 => 0
  | k + 1 => 15 + 256 * m15 k
def f3 : Nat → Nat → Nat
  | 0, _ => 0
  | k + 1, x => (pc (x % 16) + pc (x / 16 % 16)) + 256 * f3 k (x / 16 / 16)
theorem f2_mod (k x : Nat) : f2 k x % 16 ≤ 4 := by
  cases k with
  | zero => show 0 % 16 ≤ 4; omega
  | succ k =>
    show (pc (x % 16) + 16 * f2 k (x / 16)) % 16 ≤ 4
    have := pc_le (x % 16)
    omega
theorem f3_arith (c0 c1 u : Nat) (h0 : c0 ≤ 4) (h1 : c1 ≤ 4) (hu : u % 16 ≤ 4) : (c0 + 16 * (c1 + 16 * u)) / 16 + (c0 + 16 * (c1 + 16 * u)) = (c0 + c1 + 16 * (c1 + u % 16)) + 256 * (u / 16 + u) := by omega
theorem f3_is (k : Nat) : ∀ x, (f2 (2 * k) x / 16 + f2 (2 * k) x) &&& m15 k = f3 k x := by
  induction k with
  | zero => intro x; simp [m15, f3]
  | succ k ih =>
    intro x
    have h0 := pc_le (x % 16)
    have h1 := pc_le (x / 16 % 16)
    have h2 := f2_mod (2 * k) (x / 16 / 16)
    have h3 := ih (x / 16 / 16)
    show ((pc (x % 16) + 16 * (pc (x / 16 % 16) + 16 * f2 (2 * k) (x / 16 / 16))) / 16 + (pc (x % 16) + 16 * (pc (x / 16 % 16) + 16 * f2 (2 * k) (x / 16 / 16)))) &&& (15 + 256 * m15 k) = (pc (x % 16) + pc (x / 16 % 16)) + 256 * f3 k (x / 16 / 16)
    generalize f2 (2 * k) (x / 16 / 16) = u at h2 h3 ⊢
    generalize pc (x % 16) = c0 at h0 ⊢
    generalize pc (x / 16 % 16) = c1 at h1 ⊢
    rw [f3_arith c0 c1 u h0 h1 h2, and_256 _ _ _ (by omega), h3]
    omega
theorem f2_lt (k : Nat) : ∀ x, f2 k x < 16 ^ k := by
  induction k with
  | zero => intro x; show 0 < 1; decide
  | succ k ih =>
    intro x
    have := ih (x / 16)
    have hb := pc_le (x % 16)
    show pc (x % 16) + 16 * f2 k (x / 16) < 16 ^ (k + 1)
    rw [Nat.pow_succ]
    omega
theorem f2_sum (k : Nat) : ∀ x, f2 k x / 16 + f2 k x < 16 ^ k := by
  induction k with
  | zero => intro x; show 0 / 16 + 0 < 1; decide
  | succ k ih =>
    intro x
    have h := ih (x / 16)
    have hb := pc_le (x % 16)
    have hm := f2_mod k (x / 16)
    show (pc (x % 16) + 16 * f2 k (x / 16)) / 16 + (pc (x % 16) + 16 * f2 k (x / 16)) < 16 ^ (k + 1)
    rw [Nat.pow_succ]
    omega
theorem f3_step (k x : Nat) : ∃ d, d ≤ 8 ∧ f3 (k + 1) x = d + 256 * f3 k (x / 16 / 16) ∧ S (k + 1 + (k + 1)) x = d + S (k + k) (x / 16 / 16) := by
  refine ⟨_, ?_, rfl, ?_⟩
  · have := pc_le (x % 16); have := pc_le (x / 16 % 16); omega
  · rw [show k + 1 + (k + 1) = k + k + 1 + 1 by omega]
    show pc (x % 16) + (pc (x / 16 % 16) + S (k + k) (x / 16 / 16)) = _
    omega
theorem sum_1 (d0 d1 d2 d3 d4 d5 d6 d7 z : Nat) (l0 : d0 ≤ 8) (hz : z = d0 + 256 * (d1) + 65536 * (d2) + 16777216 * (d3) + 4294967296 * (d4) + 1099511627776 * (d5) + 281474976710656 * (d6) + 72057594037927936 * (d7)) : z / 256 = d1 + 256 * (d2) + 65536 * (d3) + 16777216 * (d4) + 4294967296 * (d5) + 1099511627776 * (d6) + 281474976710656 * (d7) := by omega
theorem sum_2 (d0 d1 d2 d3 d4 d5 d6 d7 z : Nat) (l0 : d0 ≤ 16) (l1 : d1 ≤ 16) (hz : z = d0 + 256 * (d1) + 65536 * (d2) + 16777216 * (d3) + 4294967296 * (d4) + 1099511627776 * (d5) + 281474976710656 * (d6) + 72057594037927936 * (d7)) : z / 65536 = d2 + 256 * (d3) + 65536 * (d4) + 16777216 * (d5) + 4294967296 * (d6) + 1099511627776 * (d7) := by omega
theorem sum_3 (d0 d1 d2 d3 d4 d5 d6 d7 z : Nat) (l0 : d0 ≤ 32) (l1 : d1 ≤ 32) (l2 : d2 ≤ 32) (l3 : d3 ≤ 32) (hz : z = d0 + 256 * (d1) + 65536 * (d2) + 16777216 * (d3) + 4294967296 * (d4) + 1099511627776 * (d5) + 281474976710656 * (d6) + 72057594037927936 * (d7)) : z / 4294967296 = d4 + 256 * (d5) + 65536 * (d6) + 16777216 * (d7) := by omega
theorem sum_is (d0 d1 d2 d3 d4 d5 d6 d7 z : Nat) (l0 : d0 ≤ 8) (l1 : d1 ≤ 8) (l2 : d2 ≤ 8) (l3 : d3 ≤ 8) (l4 : d4 ≤ 8) (l5 : d5 ≤ 8) (l6 : d6 ≤ 8) (l7 : d7 ≤ 8) (hz : z = d0 + 256 * (d1) + 65536 * (d2) + 16777216 * (d3) + 4294967296 * (d4) + 1099511627776 * (d5) + 281474976710656 * (d6) + 72057594037927936 * (d7)) :
    ∃ z4 z5 : Nat, z4 = z + z / 256 ∧ z5 = z4 + z4 / 65536 ∧ z < 18446744073709551616 ∧ z4 < 18446744073709551616 ∧ z5 < 18446744073709551616 ∧ z5 + z5 / 4294967296 < 9223372036854775808 ∧ (z5 + z5 / 4294967296) % 2 = (d0 + d1 + d2 + d3 + d4 + d5 + d6 + d7) % 2 := by
  obtain ⟨z4, h4⟩ : ∃ z4, z4 = z + z / 256 := ⟨_, rfl⟩
  obtain ⟨z5, h5⟩ : ∃ z5, z5 = z4 + z4 / 65536 := ⟨_, rfl⟩
  have k1 := sum_1 d0 d1 d2 d3 d4 d5 d6 d7 z l0 hz
  have e4 : z4 = d0 + d1 + 256 * (d1 + d2) + 65536 * (d2 + d3) + 16777216 * (d3 + d4) + 4294967296 * (d4 + d5) + 1099511627776 * (d5 + d6) + 281474976710656 * (d6 + d7) + 72057594037927936 * (d7) := by rw [h4, k1, hz]; clear h4 h5 k1 hz; omega
  have k2 := sum_2 (d0 + d1) (d1 + d2) (d2 + d3) (d3 + d4) (d4 + d5) (d5 + d6) (d6 + d7) (d7) z4 (by clear e4 k1 hz h4 h5; omega) (by clear e4 k1 hz h4 h5; omega) e4
  have e5 : z5 = d0 + d1 + (d2 + d3) + 256 * (d1 + d2 + (d3 + d4)) + 65536 * (d2 + d3 + (d4 + d5)) + 16777216 * (d3 + d4 + (d5 + d6)) + 4294967296 * (d4 + d5 + (d6 + d7)) + 1099511627776 * (d5 + d6 + (d7)) + 281474976710656 * (d6 + d7) + 72057594037927936 * (d7) := by rw [h5, k2, e4]; clear h4 h5 k1 k2 hz e4; omega
  have k3 := sum_3 (d0 + d1 + (d2 + d3)) (d1 + d2 + (d3 + d4)) (d2 + d3 + (d4 + d5)) (d3 + d4 + (d5 + d6)) (d4 + d5 + (d6 + d7)) (d5 + d6 + (d7)) (d6 + d7) (d7) z5 (by clear e4 e5 k1 k2 hz h4 h5; omega) (by clear e4 e5 k1 k2 hz h4 h5; omega) (by clear e4 e5 k1 k2 hz h4 h5; omega) (by clear e4 e5 k1 k2 hz h4 h5; omega) e5
  refine ⟨z4, z5, h4, h5, ?_, ?_, ?_, ?_, ?_⟩
  · rw [hz]; clear e4 e5 k1 k2 k3 hz h4 h5; omega
  · rw [e4]; clear e4 e5 k1 k2 k3 hz h4 h5; omega
  · rw [e5]; clear e4 e5 k1 k2 k3 hz h4 h5; omega
  · rw [k3, e5]; clear e4 e5 k1 k2 k3 hz h4 h5; omega
  · rw [k3, e5]; clear e4 e5 k1 k2 k3 hz h4 h5; omega
/-- From the sums of the nibbles on. -/
theorem rest_is (x : Nat) : ∃ z4 z5 : Nat, z4 = f3 8 x + f3 8 x / 256 ∧ z5 = z4 + z4 / 65536 ∧ f3 8 x < 18446744073709551616 ∧ z4 < 18446744073709551616 ∧ z5 < 18446744073709551616 ∧ z5 + z5 / 4294967296 < 9223372036854775808 ∧ (z5 + z5 / 4294967296) % 2 = S 16 x % 2 := by
  obtain ⟨d0, l0, e0, s0⟩ : ∃ d, d ≤ 8 ∧ f3 8 (x) = d + 256 * f3 7 (x / 16 / 16) ∧ S 16 (x) = d + S 14 (x / 16 / 16) := f3_step 7 (x)
  obtain ⟨d1, l1, e1, s1⟩ : ∃ d, d ≤ 8 ∧ f3 7 (x / 16 / 16) = d + 256 * f3 6 (x / 16 / 16 / 16 / 16) ∧ S 14 (x / 16 / 16) = d + S 12 (x / 16 / 16 / 16 / 16) := f3_step 6 (x / 16 / 16)
  obtain ⟨d2, l2, e2, s2⟩ : ∃ d, d ≤ 8 ∧ f3 6 (x / 16 / 16 / 16 / 16) = d + 256 * f3 5 (x / 16 / 16 / 16 / 16 / 16 / 16) ∧ S 12 (x / 16 / 16 / 16 / 16) = d + S 10 (x / 16 / 16 / 16 / 16 / 16 / 16) := f3_step 5 (x / 16 / 16 / 16 / 16)
  obtain ⟨d3, l3, e3, s3⟩ : ∃ d, d ≤ 8 ∧ f3 5 (x / 16 / 16 / 16 / 16 / 16 / 16) = d + 256 * f3 4 (x / 16 / 16 / 16 / 16 / 16 / 16 / 16 / 16) ∧ S 10 (x / 16 / 16 / 16 / 16 / 16 / 16) = d + S 8 (x / 16 / 16 / 16 / 16 / 16 / 16 / 16 / 16) := f3_step 4 (x / 16 / 16 / 16 / 16 / 16 / 16)
  obtain ⟨d4, l4, e4, s4⟩ : ∃ d, d ≤ 8 ∧ f3 4 (x / 16 / 16 / 16 / 16 / 16 / 16 / 16 / 16) = d + 256 * f3 3 (x / 16 / 16 / 16 / 16 / 16 / 16 / 16 / 16 / 16 / 16) ∧ S 8 (x / 16 / 16 / 16 / 16 / 16 / 16 / 16 / 16) = d + S 6 (x / 16 / 16 / 16 / 16 / 16 / 16 / 16 / 16 / 16 / 16) := f3_step 3 (x / 16 / 16 / 16 / 16 / 16 / 16 / 16 / 16)
  obtain ⟨d5, l5, e5, s5⟩ : ∃ d, d ≤ 8 ∧ f3 3 (x / 16 / 16 / 16 / 16 / 16 / 16 / 16 / 16 / 16 / 16) = d + 256 * f3 2 (x / 16 / 16 / 16 / 16 / 16 / 16 / 16 / 16 / 16 / 16 / 16 / 16) ∧ S 6 (x / 16 / 16 / 16 / 16 / 16 / 16 / 16 / 16 / 16 / 16) = d + S 4 (x / 16 / 16 / 16 / 16 / 16 / 16 / 16 / 16 / 16 / 16 / 16 / 16) := f3_step 2 (x / 16 / 16 / 16 / 16 / 16 / 16 / 16 / 16 / 16 / 16)
  obtain ⟨d6, l6, e6, s6⟩ : ∃ d, d ≤ 8 ∧ f3 2 (x / 16 / 16 / 16 / 16 / 16 / 16 / 16 / 16 / 16 / 16 / 16 / 16) = d + 256 * f3 1 (x / 16 / 16 / 16 / 16 / 16 / 16 / 16 / 16 / 16 / 16 / 16 / 16 / 16 / 16) ∧ S 4 (x / 16 / 16 / 16 / 16 / 16 / 16 / 16 / 16 / 16 / 16 / 16 / 16) = d + S 2 (x / 16 / 16 / 16 / 16 / 16 / 16 / 16 / 16 / 16 / 16 / 16 / 16 / 16 / 16) := f3_step 1 (x / 16 / 16 / 16 / 16 / 16 / 16 / 16 / 16 / 16 / 16 / 16 / 16)
  obtain ⟨d7, l7, e7, s7⟩ : ∃ d, d ≤ 8 ∧ f3 1 (x / 16 / 16 / 16 / 16 / 16 / 16 / 16 / 16 / 16 / 16 / 16 / 16 / 16 / 16) = d + 256 * f3 0 (x / 16 / 16 / 16 / 16 / 16 / 16 / 16 / 16 / 16 / 16 / 16 / 16 / 16 / 16 / 16 / 16) ∧ S 2 (x / 16 / 16 / 16 / 16 / 16 / 16 / 16 / 16 / 16 / 16 / 16 / 16 / 16 / 16) = d + S 0 (x / 16 / 16 / 16 / 16 / 16 / 16 / 16 / 16 / 16 / 16 / 16 / 16 / 16 / 16 / 16 / 16) := f3_step 0 (x / 16 / 16 / 16 / 16 / 16 / 16 / 16 / 16 / 16 / 16 / 16 / 16 / 16 / 16)
  have hS : S 16 x = d0 + d1 + d2 + d3 + d4 + d5 + d6 + d7 := by
    rw [s0, s1, s2, s3, s4, s5, s6, s7, show S 0 _ = 0 from rfl]
    clear e0 s0 e1 s1 e2 s2 e3 s3 e4 s4 e5 s5 e6 s6 e7 s7
    omega
  have hF : f3 8 x = d0 + 256 * (d1) + 65536 * (d2) + 16777216 * (d3) + 4294967296 * (d4) + 1099511627776 * (d5) + 281474976710656 * (d6) + 72057594037927936 * (d7) := by
    rw [e0, e1, e2, e3, e4, e5, e6, e7, show f3 0 _ = 0 from rfl]
    clear hS e0 s0 e1 s1 e2 s2 e3 s3 e4 s4 e5 s5 e6 s6 e7 s7
    omega
  rw [hS]
  exact sum_is d0 d1 d2 d3 d4 d5 d6 d7 _ l0 l1 l2 l3 l4 l5 l6 l7 hF
theorem xs_front (n : Nat) (f : Nat → Bool) : BM.xs (n + 1) f = (f 0 ^^ BM.xs n (fun i => f (i + 1))) := by
  induction n with
  | zero => show (false ^^ f 0) = (f 0 ^^ false); rw [Bool.false_xor, Bool.xor_false]
  | succ n ih =>
    have e1 : BM.xs (n + 1 + 1) f = (BM.xs (n + 1) f ^^ f (n + 1)) := rfl
    have e2 : BM.xs (n + 1) (fun i => f (i + 1)) = (BM.xs n (fun i => f (i + 1)) ^^ f (n + 1)) := rfl
    rw [e1, ih, e2, Bool.xor_assoc]
theorem pc_bits : ∀ b : Fin 16, decide (pc b.val % 2 = 1) = (b.val.testBit 0 ^^ (b.val.testBit 1 ^^ (b.val.testBit 2 ^^ b.val.testBit 3))) := by decide +kernel
theorem odd_add (a b : Nat) : decide ((a + b) % 2 = 1) = (decide (a % 2 = 1) ^^ decide (b % 2 = 1)) := by
  have ha : a % 2 = 0 ∨ a % 2 = 1 := by omega
  have hb : b % 2 = 0 ∨ b % 2 = 1 := by omega
  rcases ha with ha | ha <;> rcases hb with hb | hb
  · rw [ha, hb, show (a + b) % 2 = 0 by omega]; rfl
  · rw [ha, hb, show (a + b) % 2 = 1 by omega]; rfl
  · rw [ha, hb, show (a + b) % 2 = 1 by omega]; rfl
  · rw [ha, hb, show (a + b) % 2 = 0 by omega]; rfl
theorem S_odd (k : Nat) : ∀ x, decide (S k x % 2 = 1) = BM.xs (4 * k) (fun i => x.testBit i) := by
  induction k with
  | zero => intro x; rfl
  | succ k ih =>
    intro x
    show decide ((pc (x % 16) + S k (x / 16)) % 2 = 1) = _
    rw [odd_add, ih, show 4 * (k + 1) = 4 * k + 1 + 1 + 1 + 1 by omega, xs_front, xs_front, xs_front, xs_front]
    have h := pc_bits ⟨x % 16, Nat.mod_lt _ (by decide)⟩
    simp only at h
    have t : ∀ i, i < 4 → (x % 16).testBit i = x.testBit i := fun i hi => by
      rw [show 16 = 2 ^ 4 from rfl, Nat.testBit_mod_two_pow, decide_eq_true hi, Bool.true_and]
    rw [h, t 0 (by decide), t 1 (by decide), t 2 (by decide), t 3 (by decide)]
    have e : (fun i => (x / 16).testBit i) = fun i => x.testBit (i + 1 + 1 + 1 + 1) := by
      funext i
      rw [show 16 = 2 ^ 4 from rfl, Nat.testBit_div_two_pow]
    rw [e]
    simp only [Bool.xor_assoc]
theorem S_par (v : V) : decide (S 16 v.toNat % 2 = 1) = BM.xs 64 (fun i => BM.bt v i) := by
  rw [S_odd]
  exact BM.xs_congr (fun i _ => BM.bt_nat v i)
end Go.Proofs.Ytodiokladojnjaa.B
