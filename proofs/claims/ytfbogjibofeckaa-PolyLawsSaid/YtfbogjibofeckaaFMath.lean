/- The field of 256 elements: products, powers of 2, logarithms. -/
namespace Go.Proofs.Ytfbogjibofeckaa.FM

/-- a times 2. -/
def dbl (a : Nat) : Nat := (a * 2 % 256) ^^^ (a / 128 * 29)
def bitOf (b k a : Nat) : Nat := if b.testBit k then a else 0
/-- The product by Horner's rule, the k highest bits of b. -/
def mulTo (a b : Nat) : Nat → Nat
  | 0 => 0
  | k + 1 => dbl (mulTo a b k) ^^^ bitOf b (7 - k) a
def mul (a b : Nat) : Nat := mulTo a b 8
def dblN : Nat → Nat → Nat
  | 0, a => a
  | k + 1, a => dbl (dblN k a)
/-- The powers of 2. -/
def E (n : Nat) : Nat := dblN n 1
/-- The reference's product, the k lowest bits of b. -/
def rmulTo (a b : Nat) : Nat → Nat
  | 0 => 0
  | k + 1 => rmulTo a b k ^^^ bitOf b k (dblN k a)

theorem dbl_lt' : ∀ a : Fin 256, dbl a.val < 256 := by decide +kernel
theorem dbl_lt {a : Nat} (h : a < 256) : dbl a < 256 := dbl_lt' ⟨a, h⟩
theorem xor_lt {a b : Nat} (ha : a < 256) (hb : b < 256) : a ^^^ b < 256 := Nat.xor_lt_two_pow (n := 8) ha hb
set_option maxRecDepth 100000 in
theorem dbl_xor' : ∀ a b : Fin 256, dbl (a.val ^^^ b.val) = dbl a.val ^^^ dbl b.val := by decide +kernel
theorem dbl_xor {a b : Nat} (ha : a < 256) (hb : b < 256) : dbl (a ^^^ b) = dbl a ^^^ dbl b := dbl_xor' ⟨a, ha⟩ ⟨b, hb⟩
theorem bitOf_lt {b k a : Nat} (ha : a < 256) : bitOf b k a < 256 := by unfold bitOf; split <;> omega
theorem mulTo_lt {a b : Nat} (ha : a < 256) : ∀ k, mulTo a b k < 256
  | 0 => by simp [mulTo]
  | k + 1 => xor_lt (dbl_lt (mulTo_lt ha k)) (bitOf_lt ha)
theorem mul_lt {a b : Nat} (ha : a < 256) : mul a b < 256 := mulTo_lt ha 8
theorem dblN_lt {a : Nat} (ha : a < 256) : ∀ k, dblN k a < 256
  | 0 => ha
  | k + 1 => dbl_lt (dblN_lt ha k)
theorem E_lt (n : Nat) : E n < 256 := dblN_lt (by decide) n
theorem xor4 (p q r s : Nat) : (p ^^^ q) ^^^ (r ^^^ s) = (p ^^^ r) ^^^ (q ^^^ s) := by
  rw [Nat.xor_assoc, Nat.xor_assoc, ← Nat.xor_assoc q r s, Nat.xor_comm q r, Nat.xor_assoc r q s]
theorem bitOf_xor_r (b c k a : Nat) : bitOf (b ^^^ c) k a = bitOf b k a ^^^ bitOf c k a := by
  unfold bitOf; rw [Nat.testBit_xor]
  cases b.testBit k <;> cases c.testBit k <;> simp
theorem bitOf_xor_l (b k a c : Nat) : bitOf b k (a ^^^ c) = bitOf b k a ^^^ bitOf b k c := by
  unfold bitOf; split <;> simp
theorem mulTo_xor_r {a : Nat} (ha : a < 256) (b c : Nat) : ∀ k, mulTo a (b ^^^ c) k = mulTo a b k ^^^ mulTo a c k
  | 0 => by simp [mulTo]
  | k + 1 => by
    simp only [mulTo]
    rw [mulTo_xor_r ha b c k, dbl_xor (mulTo_lt ha k) (mulTo_lt ha k), bitOf_xor_r, xor4]
theorem mulTo_xor_l {a c : Nat} (ha : a < 256) (hc : c < 256) (b : Nat) : ∀ k, mulTo (a ^^^ c) b k = mulTo a b k ^^^ mulTo c b k
  | 0 => by simp [mulTo]
  | k + 1 => by
    simp only [mulTo]
    rw [mulTo_xor_l ha hc b k, dbl_xor (mulTo_lt ha k) (mulTo_lt hc k), bitOf_xor_l, xor4]
theorem mul_xor_r {a : Nat} (ha : a < 256) (b c : Nat) : mul a (b ^^^ c) = mul a b ^^^ mul a c := mulTo_xor_r ha b c 8
theorem mul_xor_l {a c : Nat} (ha : a < 256) (hc : c < 256) (b : Nat) : mul (a ^^^ c) b = mul a b ^^^ mul c b := mulTo_xor_l ha hc b 8
theorem dblN_xor {a c : Nat} (ha : a < 256) (hc : c < 256) : ∀ k, dblN k (a ^^^ c) = dblN k a ^^^ dblN k c
  | 0 => rfl
  | k + 1 => by simp only [dblN]; rw [dblN_xor ha hc k, dbl_xor (dblN_lt ha k) (dblN_lt hc k)]
theorem rmulTo_xor_l {a c : Nat} (ha : a < 256) (hc : c < 256) (b : Nat) : ∀ k, rmulTo (a ^^^ c) b k = rmulTo a b k ^^^ rmulTo c b k
  | 0 => by simp [rmulTo]
  | k + 1 => by simp only [rmulTo]; rw [rmulTo_xor_l ha hc b k, dblN_xor ha hc, bitOf_xor_l, xor4]

theorem top_bit : ∀ n : Fin 8, ∀ a : Fin 256, 2 ^ n.val ≤ a.val → a.val < 2 ^ (n.val + 1) → 2 ^ n.val ^^^ (a.val - 2 ^ n.val) = a.val := by decide +kernel
/-- Two additive functions that agree at the eight bits agree at all bytes. -/
theorem add_ext {f g : Nat → Nat} (hf : ∀ a b, a < 256 → b < 256 → f (a ^^^ b) = f a ^^^ f b) (hg : ∀ a b, a < 256 → b < 256 → g (a ^^^ b) = g a ^^^ g b)
    (h : ∀ k, k < 8 → f (2 ^ k) = g (2 ^ k)) : ∀ a, a < 256 → f a = g a := by
  have f0 : f 0 = 0 := by have := hf 0 0 (by decide) (by decide); simpa using this
  have g0 : g 0 = 0 := by have := hg 0 0 (by decide) (by decide); simpa using this
  have : ∀ n, n ≤ 8 → ∀ a, a < 2 ^ n → f a = g a := by
    intro n
    induction n with
    | zero => intro _ a ha; have : a = 0 := by simpa using ha
              rw [this, f0, g0]
    | succ n ih =>
      intro hn a ha
      have hp : 2 ^ (n + 1) ≤ 256 := Nat.pow_le_pow_right (n := 2) (by decide) hn
      have hs : 2 ^ (n + 1) = 2 ^ n * 2 := Nat.pow_succ 2 n
      by_cases hl : a < 2 ^ n
      · exact ih (by omega) a hl
      · have e := top_bit ⟨n, by omega⟩ ⟨a, by omega⟩ (by simpa using hl) ha
        simp only at e
        rw [← e, hf _ _ (by omega) (by omega), hg _ _ (by omega) (by omega), h n (by omega), ih (by omega) (a - 2 ^ n) (by omega)]
  intro a ha
  exact this 8 (Nat.le_refl _) a ha

theorem mul_dbl_bits : ∀ a : Fin 256, ∀ k : Fin 8, mul a.val (dbl (2 ^ k.val)) = dbl (mul a.val (2 ^ k.val)) := by decide +kernel
theorem mul_dbl {a b : Nat} (ha : a < 256) (hb : b < 256) : mul a (dbl b) = dbl (mul a b) :=
  add_ext (f := fun b => mul a (dbl b)) (g := fun b => dbl (mul a b))
    (fun p q hp hq => by show mul a (dbl (p ^^^ q)) = _; rw [dbl_xor hp hq, mul_xor_r ha]) (fun p q _ _ => by show dbl (mul a (p ^^^ q)) = _; rw [mul_xor_r ha, dbl_xor (mul_lt ha) (mul_lt ha)])
    (fun k hk => mul_dbl_bits ⟨a, ha⟩ ⟨k, hk⟩) b hb
theorem mul_one' : ∀ a : Fin 256, mul a.val 1 = a.val ∧ mul a.val 0 = 0 ∧ mul 0 a.val = 0 := by decide +kernel
theorem mul_one {a : Nat} (ha : a < 256) : mul a 1 = a := (mul_one' ⟨a, ha⟩).1
theorem mul_zero {a : Nat} (ha : a < 256) : mul a 0 = 0 := (mul_one' ⟨a, ha⟩).2.1
theorem zero_mul {a : Nat} (ha : a < 256) : mul 0 a = 0 := (mul_one' ⟨a, ha⟩).2.2
theorem mul_E {a : Nat} (ha : a < 256) : ∀ j, mul a (E j) = dblN j a
  | 0 => mul_one ha
  | j + 1 => by
    show mul a (dbl (E j)) = dbl (dblN j a)
    rw [mul_dbl ha (E_lt j), mul_E ha j]
theorem dblN_E (i : Nat) : ∀ j, dblN j (E i) = E (i + j)
  | 0 => rfl
  | j + 1 => by show dbl (dblN j (E i)) = dbl (E (i + j)); rw [dblN_E i j]
theorem E_mul (i j : Nat) : mul (E i) (E j) = E (i + j) := by rw [mul_E (E_lt i), dblN_E]
theorem E_255 : E 255 = 1 := by decide +kernel
theorem E_add (i : Nat) : E (i + 255) = E i := by
  rw [← E_mul, E_255, mul_one (E_lt i)]
theorem E_mul255 (i : Nat) : ∀ k, E (i + 255 * k) = E i
  | 0 => rfl
  | k + 1 => by rw [show i + 255 * (k + 1) = (i + 255 * k) + 255 by omega, E_add, E_mul255 i k]
theorem E_mod (i : Nat) : E (i % 255) = E i := by
  rw [← E_mul255 (i % 255) (i / 255)]; congr 1; omega
theorem E_congr {i j : Nat} (h : i % 255 = j % 255) : E i = E j := by rw [← E_mod i, h, E_mod]

/-- The logarithm: the first n from k on, at most f of them, with E n = a, beginning at x = E k. -/
def lgFrom (a : Nat) : Nat → Nat → Nat → Nat
  | 0, k, _ => k
  | f + 1, k, x => if x = a then k else lgFrom a f (k + 1) (dbl x)
def lg (a : Nat) : Nat := lgFrom a 255 0 1
theorem lg_all : ∀ a : Fin 256, a.val ≠ 0 → lg a.val < 255 ∧ E (lg a.val) = a.val := by decide +kernel
theorem lg_lt {a : Nat} (h : a < 256) (h0 : a ≠ 0) : lg a < 255 := (lg_all ⟨a, h⟩ h0).1
theorem E_lg {a : Nat} (h : a < 256) (h0 : a ≠ 0) : E (lg a) = a := (lg_all ⟨a, h⟩ h0).2
theorem lg_E' : ∀ i : Fin 255, lg (E i.val) = i.val ∧ E i.val ≠ 0 := by decide +kernel
theorem lg_E {i : Nat} (h : i < 255) : lg (E i) = i := (lg_E' ⟨i, h⟩).1
theorem E_ne (i : Nat) : E i ≠ 0 := by
  rw [← E_mod]; exact (lg_E' ⟨i % 255, Nat.mod_lt _ (by decide)⟩).2
theorem lg_E_mod (i : Nat) : lg (E i) = i % 255 := by rw [← E_mod, lg_E (Nat.mod_lt _ (by decide))]
theorem E_inj {i j : Nat} (h : E i = E j) : i % 255 = j % 255 := by rw [← lg_E_mod, h, lg_E_mod]

theorem mul_comm {a b : Nat} (ha : a < 256) (hb : b < 256) : mul a b = mul b a := by
  by_cases a0 : a = 0
  · rw [a0, zero_mul hb, mul_zero hb]
  by_cases b0 : b = 0
  · rw [b0, zero_mul ha, mul_zero ha]
  rw [← E_lg ha a0, ← E_lg hb b0, E_mul, E_mul, Nat.add_comm]
theorem mul_assoc {a b c : Nat} (ha : a < 256) (hb : b < 256) (hc : c < 256) : mul a (mul b c) = mul (mul a b) c := by
  by_cases a0 : a = 0
  · rw [a0, zero_mul (mul_lt hb), zero_mul hb, zero_mul hc]
  by_cases b0 : b = 0
  · rw [b0, zero_mul hc, mul_zero ha, zero_mul hc]
  by_cases c0 : c = 0
  · rw [c0, mul_zero hb, mul_zero ha, mul_zero (mul_lt ha)]
  rw [← E_lg ha a0, ← E_lg hb b0, ← E_lg hc c0, E_mul, E_mul, E_mul, E_mul, Nat.add_assoc]

theorem rmul_bits : ∀ k : Fin 8, ∀ b : Fin 256, rmulTo (2 ^ k.val) b.val 8 = mul (2 ^ k.val) b.val := by decide +kernel
theorem rmul_eq {a b : Nat} (ha : a < 256) (hb : b < 256) : rmulTo a b 8 = mul a b :=
  add_ext (f := fun a => rmulTo a b 8) (g := fun a => mul a b) (fun _ _ hp hq => rmulTo_xor_l hp hq b 8) (fun _ _ hp hq => mul_xor_l hp hq b)
    (fun k hk => rmul_bits ⟨k, hk⟩ ⟨b, hb⟩) a ha
theorem sq_xor {a b : Nat} (ha : a < 256) (hb : b < 256) : mul (a ^^^ b) (a ^^^ b) = mul a a ^^^ mul b b := by
  rw [mul_xor_l ha hb, mul_xor_r ha, mul_xor_r hb, mul_comm hb ha, xor4, ← xor4, ← Nat.xor_assoc, Nat.xor_assoc (mul a a), Nat.xor_self, Nat.xor_zero]

/-- The powers by squares: what the low k bits of n have made. -/
theorem pow_step1 (i n k : Nat) (h : n / 2 ^ k % 2 = 1) : mul (E (i * (n % 2 ^ k))) (E (i * 2 ^ k)) = E (i * (n % 2 ^ (k + 1))) := by
  rw [E_mul, ← Nat.mul_add, Nat.pow_succ, Nat.mod_mul, h, Nat.mul_one]
theorem pow_step0 (i n k : Nat) (h : n / 2 ^ k % 2 ≠ 1) : E (i * (n % 2 ^ k)) = E (i * (n % 2 ^ (k + 1))) := by
  have h0 : n / 2 ^ k % 2 = 0 := by omega
  rw [Nat.pow_succ, Nat.mod_mul, h0, Nat.mul_zero, Nat.add_zero]
theorem pow_sq (i k : Nat) : mul (E (i * 2 ^ k)) (E (i * 2 ^ k)) = E (i * 2 ^ (k + 1)) := by
  rw [E_mul, ← Nat.mul_add, Nat.pow_succ]; congr 2; omega
/-- An exponent modulo 255, from 0 on. -/
def cyc (n : Int) : Nat := (n % 255).toNat
theorem cyc_lt (n : Int) : cyc n < 255 := by unfold cyc; omega
theorem cyc_int (n : Int) : (cyc n : Int) = n % 255 := by unfold cyc; omega
/-- a to the power of n, for an a that is not 0. -/
def pw (a n : Nat) : Nat := E (lg a * n)
theorem pw_lt (a n : Nat) : pw a n < 256 := E_lt _
def invV (a : Nat) : Nat := if a = 0 then 0 else pw a 254
def errZ (a : Nat) : Int := if a = 0 then 4 else 0
def divV (a b : Nat) : Nat := if b = 0 then 0 else mul a (invV b)
def powV (a : Nat) (n : Int) : Nat := if a = 0 then (if n = 0 then 1 else 0) else pw a (cyc n)
def powE (a : Nat) (n : Int) : Int := if a = 0 then (if n < 0 then 4 else 0) else 0
def logV (a : Nat) : Nat := if a = 0 then 0 else lg a
theorem invV_lt (a : Nat) : invV a < 256 := by unfold invV; split; · decide
                                               · exact pw_lt _ _
theorem powV_lt (a : Nat) (n : Int) : powV a n < 256 := by
  unfold powV; split
  · split <;> decide
  · exact pw_lt _ _
theorem divV_lt {a b : Nat} (ha : a < 256) : divV a b < 256 := by unfold divV; split; · decide
                                                                  · exact mul_lt ha
theorem lg_two : lg 2 = 1 := by decide +kernel
end Go.Proofs.Ytfbogjibofeckaa.FM
