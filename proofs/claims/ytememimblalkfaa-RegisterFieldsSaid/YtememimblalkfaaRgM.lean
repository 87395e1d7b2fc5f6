/- Registers of maps: mathematics. -/
import Derived.Test.YtememimblalkfaaGU64
import Derived.Test.YtememimblalkfaaPMath
namespace Go.Proofs.Ytememimblalkfaa.RG
open Go Go.RowKit Go.Shelf
open G P
/-- Bits s to s + n - 1 of a register. -/
def fld (r : V) (s n : Nat) : Nat := r.toNat / 2 ^ s % 2 ^ n
theorem fld_lt (r : V) (s n : Nat) : fld r s n < 2 ^ n := Nat.mod_lt _ (Nat.pow_pos (by decide))
theorem fld_and (r : V) (s n : Nat) (hs : s ≤ 64) (hn : n < 64) : bits BinOp.and IntKind.u64 ((r.toNat : Int) / 2 ^ s) ((2 ^ n - 1 : Nat) : Int) = (fld r s n : Int) := by
  have e := shr_V r s
  rw [Nat.min_eq_left hs] at e
  have h2 : 2 ^ n - 1 < 18446744073709551616 := by
    have : 2 ^ n ≤ 2 ^ 63 := Nat.pow_le_pow_right (by decide) (by omega)
    have h63 : (2 : Nat) ^ 63 = 9223372036854775808 := by decide
    omega
  rw [e, and_u64 _ _ (V.lt (r >>> s)) h2, Nat.and_two_pow_sub_one_eq_mod, BitVec.toNat_ushiftRight, Nat.shiftRight_eq_div_pow]
  rfl
/-- The first register, of the first k parts. -/
def first (x : Nat → Int) (n : Nat) : Nat → V
  | 0 => 5548434740920451072#64 ||| (BitVec.ofNat 64 n <<< 24)
  | k + 1 => first x n k ||| (BitVec.ofNat 64 (wd x k) <<< (4 * k))
def second (lo hi : Nat) : V := (BitVec.ofNat 64 hi <<< 32) ||| BitVec.ofNat 64 lo
def low (x : Nat → Int) : Nat → Nat
  | 0 => 0
  | k + 1 => wd x k * 16 ^ k + low x k
theorem low_lt {x : Nat → Int} {k : Nat} (h : ∀ j, j < k → wd x j ≤ 12) : low x k < 16 ^ k := by
  induction k with
  | zero => exact Nat.zero_lt_one
  | succ k ih =>
    have h1 := ih (fun j hj => h j (by omega))
    have h2 := h k (by omega)
    have h3 : wd x k * 16 ^ k ≤ 12 * 16 ^ k := Nat.mul_le_mul_right _ h2
    show wd x k * 16 ^ k + low x k < 16 ^ (k + 1)
    rw [Nat.pow_succ]
    omega
theorem or_low {a i b : Nat} (h : b < 2 ^ i) : a * 2 ^ i ||| b = a * 2 ^ i + b := by
  have := Nat.shiftLeft_add_eq_or_of_lt h a
  rw [Nat.shiftLeft_eq] at this
  exact this.symm
theorem p16 (k : Nat) : (16 : Nat) ^ k = 2 ^ (4 * k) := by rw [show (16 : Nat) = 2 ^ 4 from rfl, ← Nat.pow_mul]
theorem first_nat {x : Nat → Int} {n k : Nat} (hn : n ≤ 12) (hk : k ≤ 6) (h : ∀ j, j < k → wd x j ≤ 12) :
    (first x n k).toNat = (5548434740920451072 + n * 16777216) + low x k := by
  induction k with
  | zero =>
    show (5548434740920451072#64 ||| (BitVec.ofNat 64 n <<< 24)).toNat = _
    have hc : (5548434740920451072#64).toNat = 77 * 2 ^ 56 := rfl
    rw [BitVec.toNat_or, BitVec.toNat_shiftLeft, hc, BitVec.toNat_ofNat, Nat.shiftLeft_eq]
    rw [show n % 2 ^ 64 = n by omega, show n * 2 ^ 24 % 2 ^ 64 = n * 2 ^ 24 by omega]
    rw [or_low (by omega)]
    show _ = _ + 0
    omega
  | succ k ih =>
    have h1 := ih (by omega) (fun j hj => h j (by omega))
    have h2 := low_lt (k := k) (fun j hj => h j (by omega))
    have h2' := low_lt (k := k + 1) h
    have h3 := h k (by omega)
    have hp : (16 : Nat) ^ (k + 1) ≤ 16 ^ 6 := Nat.pow_le_pow_right (by decide) hk
    have hp6 : (16 : Nat) ^ 6 = 16777216 := by decide
    show (first x n k ||| (BitVec.ofNat 64 (wd x k) <<< (4 * k))).toNat = _ + (wd x k * 16 ^ k + low x k)
    have h2'' : wd x k * 16 ^ k + low x k < 16 ^ (k + 1) := h2'
    rw [BitVec.toNat_or, BitVec.toNat_shiftLeft, BitVec.toNat_ofNat, Nat.shiftLeft_eq, h1, show wd x k % 2 ^ 64 = wd x k by omega, ← p16]
    rw [show wd x k * 16 ^ k % 2 ^ 64 = wd x k * 16 ^ k by omega]
    have hA : (5548434740920451072 + n * 16777216) = (330712483 * 1000 + n) * 0 + (77 * 4294967296 + n) * 2 ^ 24 := by omega
    have hL : low x k < 2 ^ 24 := by
      have : (16 : Nat) ^ k ≤ 16 ^ 6 := Nat.pow_le_pow_right (by decide) (by omega)
      omega
    have hL2 : wd x k * 16 ^ k + low x k < 2 ^ 24 := by omega
    have hB : wd x k * 16 ^ k ||| low x k = wd x k * 16 ^ k + low x k := by
      rw [p16] at h2 ⊢
      exact or_low h2
    rw [hA, Nat.mul_zero, Nat.zero_add, ← or_low hL, Nat.or_assoc, Nat.or_comm (low x k), hB, or_low hL2]
theorem first_val {x : Nat → Int} {n : Nat} (hn : n ≤ 12) (h : ∀ j, j < 6 → wd x j ≤ 12) :
    (first x n 6).toNat = 5548434740920451072 + n * 16777216 + wd x 5 * 1048576 + wd x 4 * 65536 + wd x 3 * 4096 + wd x 2 * 256 + wd x 1 * 16 + wd x 0 := by
  rw [first_nat hn (by decide) h]
  show _ + (wd x 5 * 16 ^ 5 + (wd x 4 * 16 ^ 4 + (wd x 3 * 16 ^ 3 + (wd x 2 * 16 ^ 2 + (wd x 1 * 16 ^ 1 + (wd x 0 * 16 ^ 0 + 0)))))) = _
  omega
theorem second_val {lo hi : Nat} (h1 : lo ≤ 4294967295) (h2 : hi ≤ 4294967295) : (second lo hi).toNat = hi * 4294967296 + lo := by
  unfold second
  rw [BitVec.toNat_or, BitVec.toNat_shiftLeft, BitVec.toNat_ofNat, BitVec.toNat_ofNat, Nat.shiftLeft_eq, show lo % 2 ^ 64 = lo by omega, show hi % 2 ^ 64 = hi by omega, show hi * 2 ^ 32 % 2 ^ 64 = hi * 2 ^ 32 by omega, or_low (by omega)]
/-- What Encode says. -/
def encE (x : Nat → Int) (n : Nat) (lo hi : Int) : Int :=
  if okB x = false then 1 else if 12 < n then 7 else if lo < 0 ∨ 1048576 < lo ∨ hi < 0 ∨ 1048576 < hi then 2 else 0
def encL (x : Nat → Int) (R : List V) (lo hi : Int) : List V := first x R.length 6 :: second lo.toNat hi.toNat :: R
/-- What Decode says of registers. -/
def decX (L : List V) : Nat → Int := fun k => (fld (el L 0) (4 * k) 4 : Int)
def decN (L : List V) : Nat := fld (el L 0) 24 8
def decLo (L : List V) : Nat := fld (el L 1) 0 32
def decHi (L : List V) : Nat := fld (el L 1) 32 32
def decE (L : List V) : Int :=
  if L.length < 2 then 11 else if ¬ (el L 0).toNat / 4294967296 = 1291845632 then 12 else if okB (decX L) = false then 1 else if 12 < decN L ∨ ¬ L.length = 2 + decN L then 7 else if 1048576 < decLo L ∨ 1048576 < decHi L then 2 else 0
theorem okB_congr {x y : Nat → Int} (h : ∀ j, j < 6 → x j = y j) : okB x = okB y := by
  have e : ∀ k, k ≤ 6 → sm x k = sm y k := fun k => by
    induction k with
    | zero => intro _; rw [sm_zero, sm_zero]
    | succ k ih => intro hk; rw [sm_succ, sm_succ, ih (by omega), h k (by omega)]
  have h2 : Ok x ↔ Ok y := by
    unfold Ok Fit
    rw [e 6 (by decide)]
    constructor
    · rintro ⟨a, b⟩; exact ⟨fun j hj => by rw [← h j hj]; exact a j hj, b⟩
    · rintro ⟨a, b⟩; exact ⟨fun j hj => by rw [h j hj]; exact a j hj, b⟩
  unfold okB
  exact decide_eq_decide.2 h2
/-- What is the case if Encode succeeds. -/
theorem enc_ok {x : Nat → Int} {n : Nat} {lo hi : Int} (h : encE x n lo hi = 0) : okB x = true ∧ n ≤ 12 ∧ (0 ≤ lo ∧ lo ≤ 1048576) ∧ 0 ≤ hi ∧ hi ≤ 1048576 := by
  unfold encE at h
  split at h
  · cases h
  · split at h
    · cases h
    · split at h
      · cases h
      · rename_i h1 h2 h3
        exact ⟨by cases e : okB x <;> simp_all, by omega, by omega, by omega, by omega⟩
theorem el0 (a b : V) (R : List V) : el (a :: b :: R) 0 = a := rfl
theorem el1 (a b : V) (R : List V) : el (a :: b :: R) 1 = b := rfl
/-- Decode of Encode. -/
theorem dec_enc {x : Nat → Int} {R : List V} {lo hi : Int} (h : encE x R.length lo hi = 0) :
    decE (encL x R lo hi) = 0 ∧ (∀ j, j < 6 → decX (encL x R lo hi) j = x j) ∧ decN (encL x R lo hi) = R.length ∧ (decLo (encL x R lo hi) : Int) = lo ∧ (decHi (encL x R lo hi) : Int) = hi ∧ (el (encL x R lo hi) 0).toNat / 4294967296 = 1291845632 := by
  obtain ⟨hok, hn, hlo, hhi⟩ := enc_ok h
  obtain ⟨hx, _⟩ := ok_yes hok
  have hv := first_val hn (fun j hj => (hx j hj).2)
  have hs := second_val (lo := lo.toNat) (hi := hi.toNat) (by omega) (by omega)
  have g0 := hx 0 (by decide)
  have g1 := hx 1 (by decide)
  have g2 := hx 2 (by decide)
  have g3 := hx 3 (by decide)
  have g4 := hx 4 (by decide)
  have g5 := hx 5 (by decide)
  have k1 : ∀ j, j < 6 → decX (encL x R lo hi) j = x j := by
    intro j hj
    unfold decX fld encL
    rw [el0, hv]
    obtain rfl | rfl | rfl | rfl | rfl | rfl : j = 0 ∨ j = 1 ∨ j = 2 ∨ j = 3 ∨ j = 4 ∨ j = 5 := by omega
    all_goals (simp only [Nat.reduceMul, Nat.reducePow]; omega)
  have k2 : decN (encL x R lo hi) = R.length := by
    unfold decN fld encL
    rw [el0, hv]
    simp only [Nat.reducePow]
    omega
  have k3 : decLo (encL x R lo hi) = lo.toNat := by
    unfold decLo fld encL
    rw [el1, hs]
    simp only [Nat.reducePow]
    omega
  have k4 : decHi (encL x R lo hi) = hi.toNat := by
    unfold decHi fld encL
    rw [el1, hs]
    simp only [Nat.reducePow]
    omega
  have k5 : (el (encL x R lo hi) 0).toNat / 4294967296 = 1291845632 := by
    unfold encL
    rw [el0, hv]
    omega
  refine ⟨?_, k1, k2, by rw [k3]; omega, by rw [k4]; omega, k5⟩
  unfold decE
  rw [okB_congr k1, hok, k2, k3, k4, if_neg (by unfold encL; simp), if_neg (by rw [k5]; simp), if_neg (by simp), if_neg, if_neg]
  · omega
  · unfold encL; simp; omega
theorem drop_enc (x : Nat → Int) (R : List V) (lo hi : Int) : (encL x R lo hi).drop 2 = R := rfl
/-- What is the case if Decode succeeds. -/
theorem dec_ok {L : List V} (h : decE L = 0) : 2 ≤ L.length ∧ (el L 0).toNat / 4294967296 = 1291845632 ∧ okB (decX L) = true ∧ decN L ≤ 12 ∧ L.length = 2 + decN L ∧ decLo L ≤ 1048576 ∧ decHi L ≤ 1048576 := by
  unfold decE at h
  split at h
  · cases h
  · split at h
    · cases h
    · split at h
      · cases h
      · split at h
        · cases h
        · split at h
          · cases h
          · rename_i h1 h2 h3 h4 h5
            exact ⟨by omega, by simpa using h2, by cases e : okB (decX L) <;> simp_all, by omega, by omega, by omega, by omega⟩
theorem dm (n m k : Nat) (h : m = k * 16) : n / k = 16 * (n / m) + n / k % 16 := by
  rw [h, ← Nat.div_div_eq_div_mul]
  omega
theorem glue (N : Nat) (h : N / 4294967296 = 1291845632) :
    5548434740920451072 + N / 16777216 % 256 * 16777216 + N / 1048576 % 16 * 1048576 + N / 65536 % 16 * 65536 + N / 4096 % 16 * 4096 + N / 256 % 16 * 256 + N / 16 % 16 * 16 + N / 1 % 16 = N := by
  have e0 := dm N 16 1 rfl
  have e1 := dm N 256 16 rfl
  have e2 := dm N 4096 256 rfl
  have e3 := dm N 65536 4096 rfl
  have e4 := dm N 1048576 65536 rfl
  have e5 := dm N 16777216 1048576 rfl
  have e6 : N / 16777216 = 256 * 1291845632 + N / 16777216 % 256 := by
    have : N / 16777216 / 256 = 1291845632 := by rw [Nat.div_div_eq_div_mul]; exact h
    omega
  rw [Nat.div_one] at e0 ⊢
  clear h
  generalize N / 16777216 % 256 = a6 at *
  generalize N / 1048576 % 16 = a5 at *
  generalize N / 65536 % 16 = a4 at *
  generalize N / 4096 % 16 = a3 at *
  generalize N / 256 % 16 = a2 at *
  generalize N / 16 % 16 = a1 at *
  generalize N % 16 = a0 at *
  generalize N / 16777216 = b6 at *
  generalize N / 1048576 = b5 at *
  generalize N / 65536 = b4 at *
  generalize N / 4096 = b3 at *
  generalize N / 256 = b2 at *
  generalize N / 16 = b1 at *
  omega
theorem two_of {L : List V} (h : 2 ≤ L.length) : ∃ a b R, L = a :: b :: R := by
  match L, h with
  | a :: b :: R, _ => exact ⟨a, b, R, rfl⟩
/-- Encode of Decode. -/
theorem enc_dec {L : List V} (h : decE L = 0) : encE (decX L) (L.drop 2).length (decLo L : Int) (decHi L : Int) = 0 ∧ encL (decX L) (L.drop 2) (decLo L : Int) (decHi L : Int) = L := by
  obtain ⟨h1, h2, h3, h4, h5, h6, h7⟩ := dec_ok h
  have hl : (L.drop 2).length = decN L := by rw [List.length_drop]; omega
  constructor
  · unfold encE
    rw [if_neg (by rw [h3]; simp), if_neg (by omega), if_neg (by omega)]
  · obtain ⟨hx, _⟩ := ok_yes h3
    have hv := first_val h4 (fun j hj => (hx j hj).2)
    have hs := second_val (lo := decLo L) (hi := decHi L) (by omega) (by omega)
    obtain ⟨a, b, R, rfl⟩ := two_of h1
    have e0 : ∀ j, wd (decX (a :: b :: R)) j = fld a (4 * j) 4 := fun j => by unfold wd decX; rw [el0]; omega
    unfold encL
    rw [show ((a :: b :: R).drop 2) = R from rfl] at hl ⊢
    have ea : first (decX (a :: b :: R)) R.length 6 = a := by
      apply BitVec.eq_of_toNat_eq
      rw [hl, hv, e0, e0, e0, e0, e0, e0]
      rw [el0] at h2
      unfold decN fld
      rw [el0]
      simp only [Nat.reduceMul, Nat.reducePow]
      exact glue _ h2
    have eb : second (decLo (a :: b :: R) : Int).toNat (decHi (a :: b :: R) : Int).toNat = b := by
      apply BitVec.eq_of_toNat_eq
      rw [Int.toNat_natCast, Int.toNat_natCast, hs]
      unfold decLo decHi fld
      rw [el1]
      simp only [Nat.reducePow]
      have := V.lt b
      omega
    rw [ea, eb]
/-- Equal parts. -/
def eqX (x y : Nat → Int) : Bool := decide (x 0 = y 0 ∧ x 1 = y 1 ∧ x 2 = y 2 ∧ x 3 = y 3 ∧ x 4 = y 4 ∧ x 5 = y 5)
theorem eqX_iff (x y : Nat → Int) : eqX x y = true ↔ ∀ j, j < 6 → x j = y j := by
  unfold eqX
  rw [decide_eq_true_iff]
  constructor
  · rintro ⟨g0, g1, g2, g3, g4, g5⟩ j hj
    obtain rfl | rfl | rfl | rfl | rfl | rfl : j = 0 ∨ j = 1 ∨ j = 2 ∨ j = 3 ∨ j = 4 ∨ j = 5 := by omega
    all_goals assumption
  · intro h
    exact ⟨h 0 (by decide), h 1 (by decide), h 2 (by decide), h 3 (by decide), h 4 (by decide), h 5 (by decide)⟩
/-- Whether two maps have equal fields. -/
def sameB (x y : Nat → Int) (R S : List V) (lo hi lo' hi' : Int) : Bool := eqX x y && decide (R = S) && decide (lo = lo') && decide (hi = hi')
theorem low_congr {x y : Nat → Int} (h : ∀ j, j < 6 → x j = y j) (n : Nat) : first x n 6 = first y n 6 := by
  have : ∀ k, k ≤ 6 → first x n k = first y n k := fun k => by
    induction k with
    | zero => intro _; rfl
    | succ k ih =>
      intro hk
      show first x n k ||| (BitVec.ofNat 64 (wd x k) <<< (4 * k)) = first y n k ||| (BitVec.ofNat 64 (wd y k) <<< (4 * k))
      rw [ih (by omega)]
      unfold wd
      rw [h k (by omega)]
  exact this 6 (by decide)
/-- Equal maps have equal registers. -/
theorem enc_same {x y : Nat → Int} {R S : List V} {lo hi lo' hi' : Int} (h : sameB x y R S lo hi lo' hi' = true) : encL x R lo hi = encL y S lo' hi' := by
  unfold sameB at h
  simp only [Bool.and_eq_true, decide_eq_true_eq] at h
  obtain ⟨⟨⟨h1, rfl⟩, rfl⟩, rfl⟩ := h
  unfold encL
  rw [low_congr ((eqX_iff _ _).1 h1)]
theorem same_refl {x y : Nat → Int} (R : List V) (lo hi : Int) (h : ∀ j, j < 6 → x j = y j) : sameB x y R R lo hi lo hi = true := by
  unfold sameB
  rw [(eqX_iff _ _).2 h]
  simp
/-- A register with another bit is another one. -/
theorem flip_ne (L : List V) (i s : Nat) (hi : i < L.length) (hs : s < 64) : L.set i (el L i ^^^ (1#64 <<< s)) ≠ L := by
  intro e
  have h1 : el (L.set i (el L i ^^^ (1#64 <<< s))) i = el L i := by rw [e]
  rw [el_set hi, if_pos rfl] at h1
  have h2 := congrArg (fun v : V => v.getLsbD s) h1
  simp only [BitVec.getLsbD_xor, BitVec.getLsbD_shiftLeft] at h2
  rw [show s - s = 0 by omega] at h2
  simp [hs] at h2
end Go.Proofs.Ytememimblalkfaa.RG
