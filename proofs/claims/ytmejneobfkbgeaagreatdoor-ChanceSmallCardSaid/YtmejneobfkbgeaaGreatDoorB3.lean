/- Plain arithmetic of limbs: lists of integers from 0 to 2^24 - 1, lowest first, and their values. No program is named here. Slices of ints in memory; nat.trim and nat.within over them. nat.within and nat.limbAt. Slices of ints that a call has made itself. Go's bit operations that the limbs use, as arithmetic. nat.Of. nat.Valid. nat.Add. nat.Mul. What one round of nat.shrink does to memory. nat.shrink: a slice that the caller owns is divided by a small number, in place. -/
import Derived.Test.YtmejneobfkbgeaaGreatDoorB2
import Derived.Lib.Hide
import Derived.Outline
import Derived.BigQuiet
import Derived.Deep.QuietTactic
import Derived.Laws.ResultCell
import Derived.WalkKit
import Derived.Laws.Bits64b
namespace Go.Proofs.YtmejneobfkbgeaaGreatDoor
namespace M

/-- Element k of a list, 0 behind its end. -/
def el (zs : List Int) (k : Nat) : Int := zs[k]?.getD 0
@[simp] theorem el_nil (k : Nat) : el [] k = 0 := rfl
@[simp] theorem el_zero (z : Int) (zs : List Int) : el (z :: zs) 0 = z := rfl
@[simp] theorem el_succ (z : Int) (zs : List Int) (k : Nat) : el (z :: zs) (k + 1) = el zs k := rfl
theorem el_lt {zs : List Int} {k : Nat} (h : k < zs.length) : el zs k = zs[k] := by unfold el; rw [List.getElem?_eq_getElem h]; rfl
theorem el_ge {zs : List Int} {k : Nat} (h : zs.length ≤ k) : el zs k = 0 := by unfold el; rw [List.getElem?_eq_none h]; rfl
theorem el_append_left {a b : List Int} {k : Nat} (h : k < a.length) : el (a ++ b) k = el a k := by unfold el; rw [List.getElem?_append_left h]
theorem el_append_right {a b : List Int} {k : Nat} (h : a.length ≤ k) : el (a ++ b) k = el b (k - a.length) := by unfold el; rw [List.getElem?_append_right h]
theorem el_take {zs : List Int} {k n : Nat} (h : k < n) : el (zs.take n) k = el zs k := by unfold el; rw [List.getElem?_take_of_lt h]
theorem el_drop (zs : List Int) (k n : Nat) : el (zs.drop n) k = el zs (n + k) := by unfold el; rw [List.getElem?_drop]
theorem el_set (zs : List Int) (i : Nat) (v : Int) (k : Nat) (h : i < zs.length) : el (zs.set i v) k = if i = k then v else el zs k := by
  unfold el; rw [List.getElem?_set]; split
  · rename_i e; subst e; simp
  · rfl
theorem ext_el {a b : List Int} (hl : a.length = b.length) (h : ∀ k, k < a.length → el a k = el b k) : a = b :=
  List.ext_getElem hl fun i h1 h2 => by have := h i h1; rwa [el_lt h1, el_lt h2] at this

theorem el_replicate (n k : Nat) : el (List.replicate n 0) k = 0 := by
  unfold el; rw [List.getElem?_replicate]; split <;> rfl

/-- The value of limbs. -/
def val : List Int → Int
  | [] => 0
  | z :: zs => z + 16777216 * val zs

/-- Each limb is from 0 to 2^24 - 1. -/
def Lim (zs : List Int) : Prop := ∀ z ∈ zs, 0 ≤ z ∧ z < 16777216

/-- The limbs without the zeros at their end. -/
def trimL : List Int → List Int
  | [] => []
  | z :: zs => if trimL zs = [] ∧ z = 0 then [] else z :: trimL zs

/-- The one list of limbs of a natural number. -/
def dig (n : Nat) : List Int :=
  if h : n = 0 then [] else ((n % 16777216 : Nat) : Int) :: dig (n / 16777216)
termination_by n
decreasing_by omega

theorem dig_zero : dig 0 = [] := by rw [dig]; simp
theorem dig_pos {n : Nat} (h : n ≠ 0) : dig n = ((n % 16777216 : Nat) : Int) :: dig (n / 16777216) := by
  rw [dig]; simp [h]
theorem dig_nil {n : Nat} : dig n = [] ↔ n = 0 := by
  constructor
  · intro h
    by_cases e : n = 0
    · exact e
    · rw [dig_pos e] at h; cases h
  · intro h; subst h; exact dig_zero

theorem Lim.nil : Lim [] := fun _ h => by cases h
theorem Lim.cons {z : Int} {zs : List Int} (h0 : 0 ≤ z) (h1 : z < 16777216) (h : Lim zs) : Lim (z :: zs) := by
  intro y hy
  cases hy with
  | head => exact ⟨h0, h1⟩
  | tail _ hy => exact h y hy
theorem Lim.head {z : Int} {zs : List Int} (h : Lim (z :: zs)) : 0 ≤ z ∧ z < 16777216 := h z (List.mem_cons_self ..)
theorem Lim.tail {z : Int} {zs : List Int} (h : Lim (z :: zs)) : Lim zs := fun y hy => h y (List.mem_cons_of_mem _ hy)
theorem Lim.append {a b : List Int} (ha : Lim a) (hb : Lim b) : Lim (a ++ b) := fun y hy => by
  rcases List.mem_append.1 hy with h | h
  · exact ha y h
  · exact hb y h
theorem Lim.get {zs : List Int} (h : Lim zs) (i : Nat) : 0 ≤ el zs i ∧ el zs i < 16777216 := by
  by_cases hi : i < zs.length
  · rw [el_lt hi]; exact h _ (List.getElem_mem hi)
  · rw [el_ge (by omega)]; simp
theorem Lim.take {zs : List Int} (h : Lim zs) (k : Nat) : Lim (zs.take k) := fun y hy => h y (List.mem_of_mem_take hy)
theorem Lim.drop {zs : List Int} (h : Lim zs) (k : Nat) : Lim (zs.drop k) := fun y hy => h y (List.mem_of_mem_drop hy)
theorem lim_of_get {zs : List Int} (h : ∀ i, i < zs.length → 0 ≤ el zs i ∧ el zs i < 16777216) : Lim zs := fun y hy => by
  obtain ⟨i, hi, rfl⟩ := List.mem_iff_getElem.1 hy
  have := h i hi
  rw [el_lt hi] at this
  exact this

theorem val_nonneg {zs : List Int} (h : Lim zs) : 0 ≤ val zs := by
  induction zs with
  | nil => simp [val]
  | cons z zs ih => have := ih h.tail; have := h.head; simp only [val]; omega

theorem lim_dig (n : Nat) : Lim (dig n) := by
  induction n using Nat.strongRecOn with
  | ind n ih =>
    by_cases e : n = 0
    · subst e; rw [dig_zero]; exact Lim.nil
    · rw [dig_pos e]; exact Lim.cons (by omega) (by omega) (ih _ (by omega))

theorem val_dig (n : Nat) : val (dig n) = n := by
  induction n using Nat.strongRecOn with
  | ind n ih =>
    by_cases e : n = 0
    · subst e; rw [dig_zero]; rfl
    · rw [dig_pos e, val, ih _ (by omega)]; omega

theorem trimL_eq_nil {zs : List Int} (h : Lim zs) : trimL zs = [] ↔ val zs = 0 := by
  induction zs with
  | nil => simp [trimL, val]
  | cons z zs ih =>
    have i := ih h.tail
    have := val_nonneg h.tail
    have := h.head
    simp only [trimL, val]
    constructor
    · intro e
      split at e
      · rename_i h'; have := i.1 h'.1; omega
      · cases e
    · intro e
      rw [if_pos ⟨i.2 (by omega), by omega⟩]

/-- Trimmed limbs are the limbs of the value. -/
theorem trimL_dig {zs : List Int} (h : Lim zs) : trimL zs = dig (val zs).toNat := by
  induction zs with
  | nil => simp [trimL, val, dig_zero]
  | cons z zs ih =>
    have i := ih h.tail
    have h0 := val_nonneg h.tail
    have hz := h.head
    by_cases e : val (z :: zs) = 0
    · rw [(trimL_eq_nil h).2 e, e]; simp [dig_zero]
    · have hne : (val (z :: zs)).toNat ≠ 0 := by have := val_nonneg h; omega
      rw [dig_pos hne]
      simp only [trimL, val] at *
      rw [if_neg (by rintro ⟨h1, h2⟩; rw [trimL_eq_nil h.tail] at h1; omega), i]
      congr 1
      · omega
      · congr 1; omega

theorem trimL_len (zs : List Int) : (trimL zs).length ≤ zs.length := by
  induction zs with
  | nil => simp [trimL]
  | cons z zs ih => simp only [trimL]; split <;> simp <;> omega

theorem trimL_take (zs : List Int) : zs.take (trimL zs).length = trimL zs := by
  induction zs with
  | nil => simp [trimL]
  | cons z zs ih => simp only [trimL]; split <;> simp [ih]

theorem trimL_idem (zs : List Int) : trimL (trimL zs) = trimL zs := by
  induction zs with
  | nil => simp [trimL]
  | cons z zs ih =>
    simp only [trimL]
    split
    · simp [trimL]
    · rename_i h; simp only [trimL, ih]; rw [if_neg h]

/-- Limbs whose last one is not 0 are those of their value. -/
theorem trimL_last {zs : List Int} (h : zs = [] ∨ zs.getLast? ≠ some 0) : trimL zs = zs := by
  induction zs with
  | nil => rfl
  | cons z zs ih =>
    rcases h with h | h
    · cases h
    · simp only [trimL]
      by_cases e : zs = []
      · subst e; simp at h; simp [trimL, h]
      · have hz : zs.getLast? ≠ some 0 := by
          intro hh; apply h
          cases zs with
          | nil => exact absurd rfl e
          | cons y ys => simpa [List.getLast?_cons_cons] using hh
        rw [ih (.inr hz), if_neg (by rintro ⟨h1, _⟩; exact e h1)]

/-- Behind the trimmed limbs there are zeros alone. -/
theorem trimL_zero (zs : List Int) : ∀ i : Nat, (trimL zs).length ≤ i → el zs i = 0 := by
  induction zs with
  | nil => simp
  | cons z zs ih =>
    intro i hi
    simp only [trimL] at hi
    split at hi
    · rename_i h
      have h1 : (trimL zs).length = 0 := by rw [h.1]; rfl
      cases i with
      | zero => simp [h.2]
      | succ i => rw [el_succ]; exact ih i (by omega)
    · cases i with
      | zero => simp at hi
      | succ i => rw [el_succ]; exact ih i (by simp at hi; omega)

theorem trimL_at (zs : List Int) (k : Nat) (hk : el zs k ≠ 0) (hz : ∀ i, k < i → el zs i = 0) : (trimL zs).length = k + 1 := by
  induction zs generalizing k with
  | nil => simp at hk
  | cons z zs ih =>
    simp only [trimL]
    cases k with
    | zero =>
      simp at hk
      have : trimL zs = [] := by
        have hall : ∀ i : Nat, el zs i = 0 := fun i => by have := hz (i + 1) (by omega); simpa using this
        clear ih hz hk
        induction zs with
        | nil => rfl
        | cons y ys ih2 =>
          have h0 := hall 0
          simp at h0
          simp only [trimL]
          rw [if_pos ⟨ih2 (fun i => by have := hall (i + 1); simpa using this), h0⟩]
      rw [if_neg (by rintro ⟨_, h2⟩; exact hk h2), this]; rfl
    | succ k =>
      have h2 := ih k (by simpa using hk) (fun i hi => by have := hz (i + 1) (by omega); simpa using this)
      rw [if_neg (by rintro ⟨h1, _⟩; rw [h1] at h2; simp at h2)]
      simp [h2]

theorem trimL_none (zs : List Int) (hz : ∀ i : Nat, el zs i = 0) : trimL zs = [] := by
  induction zs with
  | nil => rfl
  | cons y ys ih2 =>
    have h0 := hz 0
    simp at h0
    simp only [trimL]
    rw [if_pos ⟨ih2 (fun i => by have := hz (i + 1); simpa using this), h0⟩]

theorem val_append (a b : List Int) : val (a ++ b) = val a + 16777216 ^ a.length * val b := by
  induction a with
  | nil => simp [val]
  | cons z zs ih =>
    simp only [List.cons_append, val, ih, List.length_cons, Int.pow_succ]
    rw [Int.mul_add, Int.mul_comm (16777216 ^ zs.length) 16777216, Int.mul_assoc]; omega

theorem val_lt {zs : List Int} (h : Lim zs) : val zs < 16777216 ^ zs.length := by
  induction zs with
  | nil => simp [val]
  | cons z zs ih =>
    have := ih h.tail
    have := h.head
    simp only [val, List.length_cons, Int.pow_succ]
    omega

theorem dig_len_le {n k : Nat} : (dig n).length ≤ k ↔ n < 16777216 ^ k := by
  induction k generalizing n with
  | zero =>
    simp [dig_nil]
  | succ k ih =>
    by_cases e : n = 0
    · subst e; simp [dig_zero]; exact Nat.pow_pos (by omega)
    · rw [dig_pos e]
      simp only [List.length_cons, Nat.add_le_add_iff_right, ih, Nat.pow_succ]
      omega

theorem dig_last {n : Nat} (h : n ≠ 0) : (dig n).getLast? ≠ some 0 := by
  induction n using Nat.strongRecOn with
  | ind n ih =>
    rw [dig_pos h]
    by_cases e : n / 16777216 = 0
    · rw [e, dig_zero]; simp; omega
    · have := ih (n / 16777216) (by omega) e
      rw [dig_pos e] at this ⊢
      simpa [List.getLast?_cons_cons] using this

theorem trimL_of_dig (n : Nat) : trimL (dig n) = dig n := by
  rw [trimL_dig (lim_dig n), val_dig]; simp

theorem dig_inj {a b : Nat} (h : dig a = dig b) : a = b := by
  have := congrArg val h
  rw [val_dig, val_dig] at this; omega

theorem val_take_succ (zs : List Int) (k : Nat) (hk : k < zs.length) : val (zs.take (k + 1)) = val (zs.take k) + 16777216 ^ k * (el zs k) := by
  rw [List.take_succ_eq_append_getElem hk, val_append]
  simp only [val, List.length_take, Nat.min_eq_left (by omega : k ≤ zs.length), el_lt hk, Int.mul_zero, Int.add_zero]

theorem val_take_succ' (zs : List Int) (k : Nat) : val (zs.take (k + 1)) = val (zs.take k) + 16777216 ^ k * el zs k := by
  by_cases h : k < zs.length
  · exact val_take_succ zs k h
  · rw [List.take_of_length_le (by omega), List.take_of_length_le (by omega), el_ge (by omega)]; simp

theorem take_set_succ (zs : List Int) (k : Nat) (u : Int) (h : k < zs.length) : (zs.set k u).take (k + 1) = zs.take k ++ [u] := by
  rw [List.take_succ_eq_append_getElem (by simpa using h), List.getElem_set_self, List.take_set_of_le (Nat.le_refl _)]

theorem val_set_succ (zs : List Int) (k : Nat) (u : Int) (h : k < zs.length) : val ((zs.set k u).take (k + 1)) = val (zs.take k) + 16777216 ^ k * u := by
  rw [take_set_succ zs k u h, val_append]
  simp [val, Nat.min_eq_left (Nat.le_of_lt h)]

theorem Lim.set {zs : List Int} (h : Lim zs) (k : Nat) {u : Int} (h0 : 0 ≤ u) (h1 : u < 16777216) : Lim (zs.set k u) := fun y hy => by
  rcases List.mem_or_eq_of_mem_set hy with h' | h'
  · exact h y h'
  · subst h'; exact ⟨h0, h1⟩

theorem Lim.replicate (n : Nat) : Lim (List.replicate n 0) := fun y hy => by
  have := List.eq_of_mem_replicate hy; subst this; omega

theorem pow_split (P c : Int) : P * (c % 16777216) + P * 16777216 * (c / 16777216) = P * c := by
  rw [Int.mul_assoc, ← Int.mul_add, Int.emod_add_mul_ediv]

theorem pow_pos (k : Nat) : (0 : Int) < 16777216 ^ k := Int.pow_pos (by decide)

/-- One step of an addition: u and c' are what is written and what is carried on. -/
theorem add_step {P V c s t A B : Int} (h : V + P * c = A + B) : (V + P * ((c + (s + t)) % 16777216)) + P * 16777216 * ((c + (s + t)) / 16777216) = (A + P * s) + (B + P * t) := by
  have := pow_split P (c + (s + t))
  rw [Int.add_assoc, this, Int.mul_add, Int.mul_add]; omega

theorem val_replicate (n : Nat) : val (List.replicate n 0) = 0 := by
  induction n with
  | zero => rfl
  | succ n ih => rw [List.replicate_succ, val, ih]; rfl

theorem pow_cast (k : Nat) : ((16777216 ^ k : Nat) : Int) = 16777216 ^ k := Int.natCast_pow 16777216 k
theorem pow_mono {a b : Nat} (h : a ≤ b) : (16777216 : Int) ^ a ≤ 16777216 ^ b := by
  rw [← pow_cast, ← pow_cast]; exact Int.ofNat_le.2 (Nat.pow_le_pow_right (by omega) h)
theorem val_le_of_len {zs : List Int} (h : Lim zs) {n : Nat} (hn : zs.length ≤ n) : val zs < 16777216 ^ n :=
  Int.lt_of_lt_of_le (val_lt h) (pow_mono hn)

/-- The end of an addition. -/
theorem add_end {zs : List Int} {x y n : Nat} {c : Int} (hz : Lim zs) (hx : (dig x).length ≤ n) (hy : (dig y).length ≤ n) (hc : 0 ≤ c) (h : val zs + 16777216 ^ (n + 1) * c = x + y) : trimL zs = dig (x + y) := by
  have h1 := val_le_of_len (lim_dig x) hx
  have h2 := val_le_of_len (lim_dig y) hy
  rw [val_dig] at h1 h2
  have h0 := val_nonneg hz
  have hp := pow_pos n
  have e : c = 0 := by
    by_cases h3 : c = 0
    · exact h3
    · have : 16777216 ^ (n + 1) * 1 ≤ (16777216 : Int) ^ (n + 1) * c := Int.mul_le_mul_of_nonneg_left (by omega) (by have := pow_pos (n + 1); omega)
      rw [Int.pow_succ] at this h
      omega
  subst e
  rw [trimL_dig hz]
  congr 1
  omega

theorem val_set (zs : List Int) (k : Nat) (u : Int) (h : k < zs.length) : val (zs.set k u) = val zs + 16777216 ^ k * (u - el zs k) := by
  induction zs generalizing k with
  | nil => simp at h
  | cons z zs ih =>
    cases k with
    | zero => simp only [List.set_cons_zero, val, el_zero, Int.pow_zero]; omega
    | succ k =>
      simp only [List.set_cons_succ, val, el_succ, Int.pow_succ]
      rw [ih k (by simpa using h), Int.mul_add, Int.mul_comm (16777216 ^ k) 16777216, Int.mul_assoc]; omega

/-- One step of a product: t is what is to be written and carried on at place i + j. -/
theorem mul_step {V P Pi Pj c e a b q t : Int} (hP : P = Pi * Pj) (h : V + P * c = q + Pi * (a * t)) :
    (V + P * ((c + (e + a * b)) % 16777216 - e)) + P * 16777216 * ((c + (e + a * b)) / 16777216) = q + Pi * (a * (t + Pj * b)) := by
  have h1 := pow_split P (c + (e + a * b))
  have h2 : P * ((c + (e + a * b)) % 16777216 - e) = P * ((c + (e + a * b)) % 16777216) - P * e := Int.mul_sub ..
  have h3 : P * (c + (e + a * b)) = P * c + P * e + P * (a * b) := by rw [Int.mul_add, Int.mul_add]; omega
  have h4 : Pi * (a * (t + Pj * b)) = Pi * (a * t) + P * (a * b) := by
    rw [hP, Int.mul_add, Int.mul_add, Int.mul_assoc Pi Pj, Int.mul_left_comm Pj a b]
  omega

theorem mul_bound {a b : Int} (ha : 0 ≤ a ∧ a < 16777216) (hb : 0 ≤ b ∧ b < 16777216) : 0 ≤ a * b ∧ a * b ≤ 281474943156225 := by
  refine ⟨Int.mul_nonneg ha.1 hb.1, ?_⟩
  have := Int.mul_le_mul (a := a) (b := b) (c := 16777215) (d := 16777215) (by omega) (by omega) hb.1 (by decide)
  omega

theorem mul_row {V P q A Pk e y : Int} (h : V + P * q = A * y + Pk * (e * y)) : V + P * (q - 0) = (A + Pk * e) * y := by
  rw [Int.sub_zero, Int.add_mul, Int.mul_assoc, h]

/-- The end of a product. -/
theorem mul_end {zs : List Int} {x y : Nat} (hz : Lim zs) (h : val zs = x * y) : trimL zs = dig (x * y) := by
  rw [trimL_dig hz, h]; congr 1

/-- A division by a small number: the rest and the limbs of the quotient. -/
def shr (d : Int) : List Int → Int × List Int
  | [] => (0, [])
  | z :: zs => (((shr d zs).1 * 16777216 + z) % d, ((shr d zs).1 * 16777216 + z) / d :: (shr d zs).2)

theorem shr_len (d : Int) (zs : List Int) : (shr d zs).2.length = zs.length := by
  induction zs with
  | nil => rfl
  | cons z zs ih => simp [shr, ih]

theorem shr_rest (d : Int) (hd : 0 < d) (zs : List Int) : 0 ≤ (shr d zs).1 ∧ (shr d zs).1 < d := by
  cases zs with
  | nil => exact ⟨Int.le_refl _, hd⟩
  | cons z zs => exact ⟨Int.emod_nonneg _ (by omega), Int.emod_lt_of_pos _ hd⟩

theorem shr_val (d : Int) (zs : List Int) : val (shr d zs).2 * d + (shr d zs).1 = val zs := by
  induction zs with
  | nil => simp [shr, val]
  | cons z zs ih =>
    simp only [shr, val]
    have h := Int.mul_ediv_add_emod ((shr d zs).1 * 16777216 + z) d
    rw [Int.add_mul, Int.mul_assoc, Int.mul_comm (_ / d) d, ← ih]
    omega

theorem shr_lim (d : Int) (hd : 0 < d) {zs : List Int} (h : Lim zs) : Lim (shr d zs).2 := by
  induction zs with
  | nil => exact Lim.nil
  | cons z zs ih =>
    have hr := shr_rest d hd zs
    have hz := h.head
    refine Lim.cons ?_ ?_ (ih h.tail)
    · exact Int.ediv_nonneg (by omega) (by omega)
    · exact Int.ediv_lt_of_lt_mul hd (by have : ((shr d zs).1 + 1) * 16777216 ≤ d * 16777216 := Int.mul_le_mul_of_nonneg_right (by omega) (by decide)
                                         rw [Int.mul_comm 16777216 d]; omega)

theorem shr_nat {zs : List Int} {d : Nat} (hd : 0 < d) {n : Nat} (h : Lim zs) (hv : val zs = n) : trimL (shr d zs).2 = dig (n / d) ∧ (shr d zs).1 = ((n % d : Nat) : Int) := by
  have h1 := shr_val d zs
  have h2 := shr_rest d (by omega) zs
  have h3 := val_nonneg (shr_lim (d : Int) (by omega) h)
  obtain ⟨q, hq⟩ := Int.eq_ofNat_of_zero_le h3
  obtain ⟨r, hr⟩ := Int.eq_ofNat_of_zero_le h2.1
  rw [hq, hr, hv] at h1
  have h4 : q * d + r = n := by have : ((q * d + r : Nat) : Int) = (n : Int) := by rw [Int.natCast_add, Int.natCast_mul]; exact h1
                                omega
  have h5 : r < d := by rw [hr] at h2; omega
  have e1 : n / d = q := by rw [← h4, Nat.mul_comm q d, Nat.mul_add_div hd, Nat.div_eq_of_lt h5]; omega
  have e2 : n % d = r := by rw [← h4, Nat.mul_comm q d, Nat.mul_add_mod, Nat.mod_eq_of_lt h5]
  rw [trimL_dig (shr_lim (d : Int) (by omega) h), hq, hr, e1, e2]
  exact ⟨by simp, rfl⟩

theorem drop_el (zs : List Int) (k : Nat) (h : k < zs.length) : zs.drop k = el zs k :: zs.drop (k + 1) := by
  rw [List.drop_eq_getElem_cons h, el_lt h]

/-- The limbs while those from k on have been divided. -/
def shrAt (d : Int) (zs : List Int) (k : Nat) : List Int := zs.take k ++ (shr d (zs.drop k)).2
theorem shrAt_len (d : Int) (zs : List Int) (k : Nat) : (shrAt d zs k).length = zs.length := by
  unfold shrAt; rw [List.length_append, shr_len, List.length_take, List.length_drop]; omega
theorem shrAt_el (d : Int) (zs : List Int) (k : Nat) (j : Nat) (h : j < k) (hj : j < zs.length) : el (shrAt d zs k) j = el zs j := by
  unfold shrAt; rw [el_append_left (by rw [List.length_take]; omega), el_take h]
theorem shrAt_set (d : Int) (zs : List Int) (k : Nat) (h : k < zs.length) : (shrAt d zs (k + 1)).set k (((shr d (zs.drop (k + 1))).1 * 16777216 + el zs k) / d) = shrAt d zs k := by
  unfold shrAt
  rw [drop_el zs k h, List.take_succ_eq_append_getElem h, List.append_assoc, List.set_append_right _ _ (by rw [List.length_take]; omega)]
  have : k - (zs.take k).length = 0 := by rw [List.length_take]; omega
  rw [this]
  rfl
theorem shrAt_zero (d : Int) (zs : List Int) : shrAt d zs 0 = (shr d zs).2 := rfl
theorem shrAt_all (d : Int) (zs : List Int) : shrAt d zs zs.length = zs := by
  unfold shrAt; rw [List.take_length, List.drop_length]; simp [shr]
theorem shr_drop (d : Int) (zs : List Int) (k : Nat) (h : k < zs.length) : (shr d (zs.drop k)).1 = ((shr d (zs.drop (k + 1))).1 * 16777216 + el zs k) % d := by
  rw [drop_el zs k h]; rfl

end M
end Go.Proofs.YtmejneobfkbgeaaGreatDoor

namespace Go.Proofs.YtmejneobfkbgeaaGreatDoor
open Go Go.RowKit Go.Shelf
attribute [local go_sem] Oper.semAt_some

theorem cell_new (w : World) (v : Value) (t : TypeId) : (w.alloc (.cells #[v] t)).cell? ⟨w.heap.size, 0, none⟩ = some v := by
  simp
theorem frozen_new (w : World) (v : Value) (t : TypeId) : (w.alloc (.cells #[v] t)).frozen? ⟨w.heap.size, 0, none⟩ = false := by
  simp
theorem cell_later {w : World} {a : Addr} {v : Value} (o : Obj) (h : w.cell? a = some v) : (w.alloc o).cell? a = some v :=
  cell_kept h (World.grownBy_alloc w o none) (fun r e => by cases e)
theorem frozen_later {w : World} {a : Addr} {v : Value} (o : Obj) (h : w.cell? a = some v) (hf : w.frozen? a = false) : (w.alloc o).frozen? a = false :=
  (frozen_kept h (World.grownBy_alloc w o none) (fun r e => by cases e)).trans hf
theorem lt_of_cell {w : World} {a : Addr} {v : Value} (h : w.cell? a = some v) : a.block < w.heap.size := by
  obtain ⟨o, ho, _⟩ := cells_of_cell h
  exact (Array.getElem?_eq_some_iff.1 ho).1

/-- The slice at a, of capacity cap, holds the ints zs. -/
structure Row (w : World) (a : Option Addr) (zs : List Int) (cap : Nat) : Prop where
  room : zs.length ≤ cap
  most : cap ≤ 9223372036854775807
  el : ∀ j, j < zs.length → ∃ b off, a = some ⟨b, off, none⟩ ∧ w.cell? ⟨b, off + j, none⟩ = some (.int .i64 (M.el zs j))

theorem Row.below {w w' : World} {a : Option Addr} {zs : List Int} {cap : Nat} (h : Row w a zs cap) (hb : Below w.heap.size w w') : Row w' a zs cap :=
  ⟨h.room, h.most, fun j hj => by
    obtain ⟨b, off, e, hc⟩ := h.el j hj
    exact ⟨b, off, e, (hb.cell (p := ⟨b, off + j, none⟩) (lt_of_cell hc)).trans hc⟩⟩

/-- The cell of element j, at the address that is known. -/
theorem Row.cell {w : World} {b off : Nat} {zs : List Int} {cap : Nat} (h : Row w (some ⟨b, off, none⟩) zs cap) (j : Nat) (hj : j < zs.length) : w.cell? ⟨b, off + j, none⟩ = some (.int .i64 (M.el zs j)) := by
  obtain ⟨b', off', e, hc⟩ := h.el j hj
  cases e
  exact hc

/-- The slice that trim hands back. -/
def cut (a : Option Addr) (cap : Nat) (ts : List Int) : Value := if ts = [] then .slice none 0 0 else .slice a ts.length cap

set_option maxRecDepth 100000 in
set_option maxHeartbeats 2000000 in
/-- **nat.trim**: the slice without the zeros at its end. -/
theorem trim_any (a : Option Addr) (zs : List Int) (cap : Nat) (w : World) (hR : Row w a zs cap) :
    Calls Tryz.prog 48 #[.slice a zs.length cap] w fun e W' => e = .returned (cut a cap (M.trimL zs)) ∧ Below w.heap.size w W' := by
  refine (callsIn_wide (n := 6)).1 ?_
  refine callsIn_of_wp_marks Tryz.func48 rfl trivial ?_ rfl
  simp only [Tryz.ntmps48, List.size_toArray, List.length_cons, List.length_nil, Nat.reduceAdd, Nat.reduceSub, Array.replicate_succ, Array.replicate_zero, List.push_toArray, List.append_toArray, List.nil_append, List.cons_append]
  gi_wp2_with (refine ⟨trivial, ?_⟩; gi_at_call 97; refine (callsIn_wide.2 (backward_any _ _ _ _)).mono ?_; rintro e w' ⟨rfl, rfl⟩)
  have c0 := cell_new w (.slice a zs.length cap) 24
  have c1 := cell_new (w.alloc (.cells #[.slice a zs.length cap] 24)) (.slice none 0 0) 24
  have f1 := frozen_new (w.alloc (.cells #[.slice a zs.length cap] 24)) (.slice none 0 0) 24
  have c2 := cell_new ((w.alloc (.cells #[.slice a zs.length cap] 24)).alloc (.cells #[.slice none 0 0] 24)) (.slice a zs.length cap) 24
  simp only [World.size_alloc] at c1 f1 c2
  have hB0 : Below w.heap.size w (((w.alloc (.cells #[.slice a zs.length cap] 24)).alloc (.cells #[.slice none 0 0] 24)).alloc (.cells #[.slice a zs.length cap] 24)) := (((Below.refl _ w).alloc (Nat.le_refl _) _).alloc (by simp) _).alloc (by simp; omega) _
  refine wpIn_back (n := 6) (by omega) (Bs := w.heap.size + 1 + 1) rfl rfl a zs.length cap (by have := hR.room; have := hR.most; omega) (fun j => M.el zs j)
    (fun k W => ((∀ j : Nat, k ≤ j → M.el zs j = 0) ∧ W.cell? ⟨w.heap.size, 0, none⟩ = some (.slice a zs.length cap) ∧ W.cell? ⟨w.heap.size + 1, 0, none⟩ = some (.slice none 0 0) ∧ W.frozen? ⟨w.heap.size + 1, 0, none⟩ = false ∧ W.cell? ⟨w.heap.size + 1 + 1, 0, none⟩ = some (.slice a zs.length cap)) ∧ Below w.heap.size w W)
    (fun c k W => (c = .ret ∧ M.el zs k ≠ 0 ∧ (∀ j : Nat, k < j → M.el zs j = 0) ∧ W.cell? ⟨w.heap.size + 1, 0, none⟩ = some (.slice a (k + 1) cap)) ∧ Below w.heap.size w W)
    (OwnFrom.and (Own.from (fun s A B row hs hg hr => ⟨hs.1, cell_kept hs.2.1 hg hr, cell_kept hs.2.2.1 hg hr, (frozen_kept hs.2.2.1 hg hr).trans hs.2.2.2.1, cell_kept hs.2.2.2.2 hg hr⟩) _) (ownFrom_below (Nat.le_refl _) (by simp; omega)))
    (fun c => OwnFrom.and (Own.from (fun s A B row hs hg hr => ⟨hs.1, hs.2.1, hs.2.2.1, cell_kept hs.2.2.2 hg hr⟩) _) (ownFrom_below (Nat.le_refl _) (by simp; omega)))
    ⟨⟨fun j hj => by exact M.el_ge hj, cell_later _ (cell_later _ c0), cell_later _ c1, frozen_later _ c1 f1, c2⟩, hB0⟩
    (fun k W h => h.1.2.2.2.2)
    (fun k W h hk => by
      obtain ⟨b, off, e, hc⟩ := hR.el k hk
      exact ⟨b, off, e, (h.2.cell (p := ⟨b, off + k, none⟩) (lt_of_cell hc)).trans hc⟩)
    (fun k => { tmps := #[.slice a zs.length cap, .pointer (some ⟨w.heap.size, 0, none⟩), .pointer (some ⟨w.heap.size + 1, 0, none⟩), .int .i64 (k : Int), .int .i64 (M.el zs k), .slice a zs.length cap, .func (.func 136) #[] #[.pointer (some ⟨w.heap.size + 1 + 1, 0, none⟩)], .int .i64 (k : Int), .int .i64 (M.el zs k), undef, undef, undef, undef, undef, undef], defers := [] }) ?assign ?body ?done ?stop
  case assign =>
    intro l k W K hk hK
    gi_wp2
    exact hK
  case body =>
    rintro l k W hl hrec ⟨⟨hz, hc0, hc1, hf1, hc2⟩, hB⟩ hk
    have hroom := hR.room
    have hmost := hR.most
    have hz' : ∀ j : Nat, k < j → M.el zs j = 0 := fun j hj => hz j hj
    have HZ := Lib.hid hz
    have HZ' := Lib.hid hz'
    clear hz hz'
    by_cases hne : M.el zs k = 0
    · have hb : ((M.el zs k) != 0) = false := by simp [hne]
      have HN := Lib.hid hne
      clear hne
      gi_wp2
      refine ⟨(KeepsOthers.refl _).from _, ⟨fun j hj => ?_, hc0, hc1, hf1, hc2⟩, hB⟩
      by_cases e : j = k
      · rw [e]; exact HN.out
      · exact HZ'.out j (by omega)
    · have hb : ((M.el zs k) != 0) = true := by simp [hne]
      have HN := Lib.hid hne
      clear hne
      gi_wp2
      exact ⟨(KeepsOthers.setCell _ _ _).from _, ⟨rfl, HN.out, HZ'.out, World.cell?_setCell_same' _ _ _ (by rw [hc1]; rfl)⟩, hB.setCell (p := ⟨w.heap.size + 1, 0, none⟩) (by simp) _⟩
  case done =>
    rintro D W hD ⟨⟨hz, _, hc1, hf1, _⟩, hB⟩ hK
    have HZ := Lib.hid (M.trimL_none zs (fun j => hz j (Nat.zero_le _)))
    clear hz
    gi_wp2
    have hK' := (KeepsOthers.setCell W ⟨w.heap.size + 1, 0, none⟩ (.slice none 0 0)).same D _ hK rfl
    refine ⟨by simp, .inl ⟨_, _, rfl, run_takeDeferred hK', ?_⟩⟩
    have hc5 := cell_kept (World.cell?_setCell_same' W ⟨w.heap.size + 1, 0, none⟩ (.slice none 0 0) (by rw [hc1]; rfl)) (grownBy_putObj' _ D (.deferred none)) (fun r e => by cases e; exact ⟨_, hK', rfl⟩)
    refine ⟨.slice none 0 0, ?_, by rw [HZ.out]; rfl, (hB.setCell (p := ⟨w.heap.size + 1, 0, none⟩) (by simp) _).trans (belowK_b (w := w) (Nat.le_refl _) _ D _ _ (by simp at hD; omega) hK' rfl rfl)⟩
    simp [results, Tryz.f48, go_sem, hc5]
  case stop =>
    rintro D c k W hD hk ⟨⟨rfl, hne, hz, hc1⟩, hB⟩ hK
    have HZ := Lib.hid (M.trimL_at zs k hne hz)
    clear hz hne
    gi_wp2
    refine ⟨by simp, .inl ⟨_, _, rfl, run_takeDeferred hK, ?_⟩⟩
    have hc5 := cell_kept hc1 (grownBy_putObj' _ D (.deferred none)) (fun r e => by cases e; exact ⟨_, hK, rfl⟩)
    refine ⟨.slice a (k + 1) cap, ?_, ?_, hB.trans (belowK_b (w := w) (Nat.le_refl _) W D _ _ (by simp at hD; omega) hK rfl rfl)⟩
    · simp [results, Tryz.f48, go_sem, hc5]
    · have hh := HZ.out
      unfold cut
      rw [if_neg (by intro e; rw [e] at hh; simp at hh), hh]
end Go.Proofs.YtmejneobfkbgeaaGreatDoor

namespace Go.Proofs.YtmejneobfkbgeaaGreatDoor
open Go Go.RowKit Go.Shelf

set_option maxHeartbeats 400000 in
/-- **nat.limbAt**: limb i, 0 behind the end. -/
theorem limbAt_any (a : Option Addr) (zs : List Int) (cap : Nat) (k : Nat) (w : World) (hR : Row w a zs cap) :
    Calls Tryz.prog 131 #[.slice a zs.length cap, .int .i64 (k : Int)] w fun e W' => e = .returned (.int .i64 (M.el zs k)) ∧ W' = w := by
  have hroom := hR.room
  have hmost := hR.most
  by_cases h : k < zs.length
  · obtain ⟨b, off, rfl, hc⟩ := hR.el k h
    go_enter Tryz.func131, Tryz.ntmps131
    go_wp2
    go_ret
    exact ⟨rfl, rfl⟩
  · have hz := Lib.hid (M.el_ge (zs := zs) (k := k) (by omega))
    go_enter Tryz.func131, Tryz.ntmps131
    go_wp2
    go_ret
    exact ⟨by rw [hz.out]; rfl, rfl⟩

theorem Row.alloc {w : World} {a : Option Addr} {zs : List Int} {cap : Nat} (h : Row w a zs cap) (o : Obj) : Row (w.alloc o) a zs cap :=
  h.below ((Below.refl _ w).alloc (Nat.le_refl _) _)

/-- What lies behind a call that only makes memory. -/
theorem bcell {W w1 : World} (hb : Below W.heap.size W w1) : (∀ b o, b < W.heap.size → w1.cell? ⟨b, o, none⟩ = W.cell? ⟨b, o, none⟩) ∧ (∀ b o, b < W.heap.size → w1.frozen? ⟨b, o, none⟩ = W.frozen? ⟨b, o, none⟩) :=
  ⟨fun b o h => hb.cell (p := ⟨b, o, none⟩) h, fun b o h => hb.frozen (p := ⟨b, o, none⟩) h⟩

theorem cut_slice (a : Option Addr) (cap : Nat) (ts : List Int) : ∃ a' c', cut a cap ts = .slice a' ts.length c' := by
  unfold cut
  split
  · rename_i h; exact ⟨none, 0, by rw [h]; rfl⟩
  · exact ⟨a, cap, rfl⟩

set_option maxHeartbeats 400000 in
/-- **nat.within**: the trimmed slice; ErrLimit, if it has too many elements. -/
theorem within_any (a : Option Addr) (zs : List Int) (cap : Nat) (w : World) (hR : Row w a zs cap) :
    Calls Tryz.prog 132 #[.slice a zs.length cap] w fun e W' => e = .returned (if (M.trimL zs).length ≤ 200 then .tuple #[.agg #[cut a cap (M.trimL zs)], .int .i64 0] else .tuple #[.agg #[.slice none 0 0], .int .i64 3]) ∧ Below w.heap.size w W' := by
  obtain ⟨a', c', hc⟩ := cut_slice a cap (M.trimL zs)
  have hl := M.trimL_len zs
  have hroom := hR.room
  have hmost := hR.most
  have ht := trim_any a zs cap (w.alloc (.cells #[.slice none 0 0] 41)) (hR.alloc _)
  rw [hc] at ht ⊢
  clear hc
  generalize (M.trimL zs).length = n at *
  have Ht := Lib.hid ht
  clear ht
  by_cases h : n ≤ 200
  · have HE := Lib.hid (show (if n ≤ 200 then Value.tuple #[.agg #[.slice a' n c'], .int .i64 0] else .tuple #[.agg #[.slice none 0 0], .int .i64 3]) = .tuple #[.agg #[.slice a' n c'], .int .i64 0] from if_pos h)
    go_enter Tryz.func132, Tryz.ntmps132
    go_wp2_with (go_at_call 48; refine Ht.out.mono ?_; rintro e w' ⟨rfl, hb⟩; obtain ⟨hcc, hff⟩ := bcell hb)
    exact bodyPost_ret (v := .tuple #[.agg #[.slice a' n c'], .int .i64 0]) (by simp [results, Tryz.results132, go_sem, hcc]) rfl ⟨rfl, (((Below.refl _ w).alloc (Nat.le_refl _) _).trans (hb.mono (by simp))).setCell (p := ⟨w.heap.size, 0, none⟩) (Nat.le_refl _) _⟩
  · have HE := Lib.hid (show (if n ≤ 200 then Value.tuple #[.agg #[.slice a' n c'], .int .i64 0] else .tuple #[.agg #[.slice none 0 0], .int .i64 3]) = .tuple #[.agg #[.slice none 0 0], .int .i64 3] from if_neg h)
    go_enter Tryz.func132, Tryz.ntmps132
    go_wp2_with (go_at_call 48; refine Ht.out.mono ?_; rintro e w' ⟨rfl, hb⟩; obtain ⟨hcc, hff⟩ := bcell hb)
    exact bodyPost_ret (v := .tuple #[.agg #[.slice none 0 0], .int .i64 3]) (by simp [results, Tryz.results132, go_sem, hcc]) rfl ⟨rfl, (((Below.refl _ w).alloc (Nat.le_refl _) _).trans (hb.mono (by simp))).setCell (p := ⟨w.heap.size, 0, none⟩) (Nat.le_refl _) _⟩
end Go.Proofs.YtmejneobfkbgeaaGreatDoor

namespace Go.Proofs.YtmejneobfkbgeaaGreatDoor
open Go Go.RowKit Go.Shelf

/-- The slice v, made from block B on, holds the ints zs. -/
def Own (W : World) (B : Nat) (v : Value) (zs : List Int) : Prop := W.ownsRow B 3 1 v zs.length (zs.map (Value.int .i64))

theorem Own.nil (W : World) (B : Nat) : Own W B (.slice none 0 0) [] := World.ownsRow_nil _ _ _ _

theorem grown_of_below {W W' : World} (h : Below W.heap.size W W') : W.grownBy W' none := ⟨h.os, h.tape, h.output, h.size, fun k hk _ => h.block k hk⟩

theorem Own.below {W W' : World} {B : Nat} {v : Value} {zs : List Int} (h : Own W B v zs) (hb : Below W.heap.size W W') : Own W' B v zs :=
  World.ownsRow.kept h (grown_of_below hb) (by cases v.ownBlock with | none => exact .inl rfl | some k => exact .inr (by intro e; cases e))
theorem Own.alloc {W : World} {B : Nat} {v : Value} {zs : List Int} (h : Own W B v zs) (o : Obj) : Own (W.alloc o) B v zs :=
  h.below ((Below.refl _ W).alloc (Nat.le_refl _) _)

theorem Own.mono {W : World} {B B' : Nat} {v : Value} {zs : List Int} (h : Own W B v zs) (hB : B' ≤ B) : Own W B' v zs := by
  obtain ⟨h1, h2 | ⟨g, cap, cur, hv, hg, r⟩⟩ := h
  · exact ⟨h1, .inl h2⟩
  · exact ⟨h1, .inr ⟨g, cap, cur, hv, Nat.le_trans hB hg, r⟩⟩

/-- What is known of the slice value: its address, its capacity, the cells. -/
theorem Own.parts {W : World} {B : Nat} {v : Value} {zs : List Int} (h : Own W B v zs) :
    (v = .slice none 0 0 ∧ zs = []) ∨ ∃ g cap, v = .slice (some ⟨g, 0, none⟩) zs.length cap ∧ B ≤ g ∧ g < W.heap.size ∧ zs.length ≤ cap ∧ cap ≤ 9223372036854775807 ∧
      ∀ j, j < zs.length → W.cell? ⟨g, j, none⟩ = some (.int .i64 (M.el zs j)) ∧ W.frozen? ⟨g, j, none⟩ = false := by
  have h' := h
  obtain ⟨h1, h2 | ⟨g, cap, cur, hv, hg, hh, r1, r2, r3⟩⟩ := h
  · exact .inl ⟨h2.1, List.length_eq_zero_iff.1 h2.2⟩
  · refine .inr ⟨g, cap, hv, hg, (Array.getElem?_eq_some_iff.1 hh).1, r1, r2, fun j hj => ?_⟩
    subst hv
    refine ⟨?_, World.ownsRow.frozenAt h' j⟩
    rw [World.ownsRow.cellAt h' j (by simpa using hj), List.getElem?_map, List.getElem?_eq_getElem hj, M.el_lt hj]
    rfl

theorem Own.row {W : World} {B : Nat} {v : Value} {zs : List Int} (h : Own W B v zs) : ∃ a cap, v = .slice a zs.length cap ∧ Row W a zs cap := by
  rcases h.parts with ⟨rfl, rfl⟩ | ⟨g, cap, rfl, _, _, r1, r2, hc⟩
  · exact ⟨none, 0, rfl, Nat.le_refl _, by omega, fun j hj => by simp at hj⟩
  · exact ⟨_, cap, rfl, r1, r2, fun j hj => ⟨g, 0, rfl, by simpa using (hc j hj).1⟩⟩

/-- The slice's first elements are owned, too. -/
theorem Own.take {W : World} {B : Nat} {a : Option Addr} {cap : Nat} {zs : List Int} (h : Own W B (.slice a zs.length cap) zs) (k : Nat) (hk : k ≤ zs.length) : Own W B (cut a cap (zs.take k)) (zs.take k) := by
  unfold cut
  split
  · rename_i e; rw [e]; exact Own.nil _ _
  · obtain ⟨h1, h2 | ⟨g, cap', cur, hv, hg, hh, r1, r2, r3, r4⟩⟩ := h
    · rename_i e
      have hz : zs = [] := List.length_eq_zero_iff.1 h2.2
      subst hz; simp at e
    · cases hv
      have e1 : (zs.take k).length = k := by simp [hk]
      refine ⟨by simp, .inr ⟨g, cap, cur, rfl, hg, hh, by omega, r2, r3, ?_⟩⟩
      rw [List.map_take, ← r4, List.take_take, e1]
      congr 1; omega

theorem Own.trimmed {W : World} {B : Nat} {a : Option Addr} {cap : Nat} {zs : List Int} (h : Own W B (.slice a zs.length cap) zs) : Own W B (cut a cap (M.trimL zs)) (M.trimL zs) := by
  have := h.take (M.trimL zs).length (M.trimL_len zs)
  rwa [M.trimL_take] at this

/-- A store into an owned slice. -/
theorem Own.set {W : World} {B : Nat} {g cap : Nat} {zs : List Int} (h : Own W B (.slice (some ⟨g, 0, none⟩) zs.length cap) zs) (j : Nat) (u : Int) : Own (W.setCell ⟨g, j, none⟩ (.int .i64 u)) B (.slice (some ⟨g, 0, none⟩) zs.length cap) (zs.set j u) := by
  unfold Own
  rw [List.length_set, List.map_set]
  exact (World.ownsRow.stored h j (.int .i64 u)).1

/-- A store below what is owned. -/
theorem Own.setBelow {W : World} {B : Nat} {v : Value} {zs : List Int} (h : Own W B v zs) {p : Addr} (hp : p.block < B) (u : Value) : Own (W.setCell p u) B v zs :=
  ownsRow_setCell_below h hp u

theorem cell_of_new (w : World) (v : Value) (t : TypeId) : (w.alloc (.cells #[v] t)).cell? ⟨w.heap.size, 0, none⟩ = some v ∧ (w.alloc (.cells #[v] t)).frozen? ⟨w.heap.size, 0, none⟩ = false :=
  ⟨cell_new _ _ _, frozen_new _ _ _⟩

theorem info_int : (Tryz.prog.info? 3).map (fun i => (i.zero, i.size, i.bytes)) = some (some (.int .i64 0), 1, 8) := by kernel_rfl

theorem Row.drewN {w : World} {a : Option Addr} {zs : List Int} {cap : Nat} (h : Row w a zs cap) (n : Nat) : Row (w.drewN n) a zs cap := ⟨h.room, h.most, h.el⟩

theorem Own.drewN {W : World} {B : Nat} {v : Value} {zs : List Int} (h : Own W B v zs) (n : Nat) : Own (W.drewN n) B v zs := h
theorem belowN {B : Nat} {w W : World} (h : Below B w W) (n : Nat) : Below B w (W.drewN n) := ⟨h.os, h.tape, h.output, h.size, h.block⟩

theorem Own.rowAt {W : World} {B : Nat} {a : Option Addr} {cap : Nat} {zs : List Int} (h : Own W B (.slice a zs.length cap) zs) : Row W a zs cap := by
  obtain ⟨a', cap', e, r⟩ := h.row
  cases e
  exact r

/-- Element k of a slice that is owned. -/
theorem Own.at {W : World} {B g cap : Nat} {zs : List Int} (h : Own W B (.slice (some ⟨g, 0, none⟩) zs.length cap) zs) (k : Nat) (hk : k < zs.length) : B ≤ g ∧ W.cell? ⟨g, k, none⟩ = some (.int .i64 (M.el zs k)) ∧ W.frozen? ⟨g, k, none⟩ = false := by
  rcases h.parts with ⟨e, rfl⟩ | ⟨g', cap', e, hb, _, _, _, hc⟩
  · simp at hk
  · cases e
    exact ⟨hb, hc k hk⟩

theorem Own.at2 {W : World} {B n cap : Nat} {a : Option Addr} {zs : List Int} (h : Own W B (.slice a n cap) zs) (k : Nat) (hk : k < zs.length) : ∃ g, a = some ⟨g, 0, none⟩ ∧ B ≤ g ∧ g < W.heap.size ∧ n ≤ cap ∧ cap ≤ 9223372036854775807 ∧ W.cell? ⟨g, k, none⟩ = some (.int .i64 (M.el zs k)) ∧ W.frozen? ⟨g, k, none⟩ = false := by
  rcases h.parts with ⟨e, rfl⟩ | ⟨g', cap', e, hb, h2, h3, h4, hc⟩
  · simp at hk
  · cases e
    exact ⟨g', rfl, hb, h2, h3, h4, hc k hk⟩
theorem Own.len {W : World} {B n cap : Nat} {a : Option Addr} {zs : List Int} (h : Own W B (.slice a n cap) zs) : n = zs.length := by
  rcases h.parts with ⟨e, rfl⟩ | ⟨g', cap', e, _⟩
  · cases e; rfl
  · cases e; rfl
/-- A store into another block. -/
theorem Own.other {W : World} {B : Nat} {v : Value} {zs : List Int} (h : Own W B v zs) {p : Addr} (u : Value) (hp : v.ownBlock ≠ some p.block) : Own (W.setCell p u) B v zs :=
  World.ownsRow.kept h (row := some p.block) ⟨rfl, rfl, rfl, by simp [World.setCell], fun k _ hk => Below.heap_setCell W p u k (fun e => hk (by rw [e]))⟩ (.inr hp)

theorem below_of_grown {W W' : World} {B : Nat} {v : Value} {zs : List Int} (h : Own W B v zs) (hg : W.grownBy W' v.ownBlock) (hB : B ≤ W.heap.size) : Below B W W' :=
  (Below.refl B W).grown hg hB (fun k e => (World.ownsRow.lt h k e).1)

/-- **make([]int, n)** -/
theorem wpList_make1 {W : World} {ops : Array Oper} {rest : List Oper} {o : Oper} {a : Act} {Q : Exit → Act → World → Prop} (hgd : o.guard = none) (l c : Operand) (hop : o.op = Op.makeSlice 24 l c)
    {B : Nat} (n : Nat) {L : Int} (hl : a.eval l = .int .i64 L) (hc : a.eval c = .int .i64 L) (hL : L = (n : Int)) (hn : n < 1000000) (hbase : B ≤ W.heap.size)
    (h : ∀ W', Own W' B (.slice (some ⟨W.heap.size, 0, none⟩) (List.replicate n (0 : Int)).length n) (List.replicate n 0) → Below B W W' → wpList Tryz.prog ops Q rest (a.put o.dst (.slice (some ⟨W.heap.size, 0, none⟩) n n)) W') : wpList Tryz.prog ops Q (o :: rest) a W := by
  obtain ⟨i0, hi, hz0, hz1, hz2⟩ := info_parts info_int
  refine wpList_make_full W hgd l c 24 hop B 3 i0 (.int .i64 0) 1 Tryz.underlying24 hi hz0 hz1 .i64 .i64 L L n hl hc hL hL (by rw [hz2]; omega) (by unfold maxLen; omega) hbase ?_
  intro W' hown hgrow
  refine h W' ?_ ((Below.refl B W).grown hgrow hbase (fun k e => by cases e))
  unfold Own
  rw [List.length_replicate, List.map_replicate]
  have e : (madeCells (Value.int .i64 0).cells (n * 1)).toList = List.replicate n (Value.int .i64 0) := by
    refine List.eq_replicate_iff.2 ⟨by simp [madeCells, Value.cells], fun b hb => ?_⟩
    simp [madeCells, Value.cells, Nat.mod_one] at hb
    exact hb.2.symm
  rw [e] at hown
  exact hown

/-- The value v is the number n. -/
def Num (W : World) (v : Value) (n : Nat) : Prop := ∃ a cap, v = .agg #[.slice a (M.dig n).length cap] ∧ Row W a (M.dig n) cap

/-- The result is the number n, or ErrLimit if it is too long. -/
def NatRes (n : Nat) (e : Ending) (W : World) : Prop := if (M.dig n).length ≤ 200 then ∃ v, e = .returned (.tuple #[v, .int .i64 0]) ∧ Num W v n else e = .returned (.tuple #[.agg #[.slice none 0 0], .int .i64 3])
theorem natRes_ok {n : Nat} {v : Value} {W : World} (h : (M.dig n).length ≤ 200) (hv : Num W v n) : NatRes n (.returned (.tuple #[v, .int .i64 0])) W := by
  unfold NatRes; rw [if_pos h]; exact ⟨v, rfl, hv⟩
theorem natRes_limit {n : Nat} {W : World} (h : ¬ (M.dig n).length ≤ 200) : NatRes n (.returned (.tuple #[.agg #[.slice none 0 0], .int .i64 3])) W := by
  unfold NatRes; rw [if_neg h]
theorem NatRes.ok {n : Nat} {e : Ending} {W : World} (h : NatRes n e W) (hl : (M.dig n).length ≤ 200) : ∃ v, e = .returned (.tuple #[v, .int .i64 0]) ∧ Num W v n := by
  unfold NatRes at h; rwa [if_pos hl] at h
theorem NatRes.limit {n : Nat} {e : Ending} {W : World} (h : NatRes n e W) (hl : ¬ (M.dig n).length ≤ 200) : e = .returned (.tuple #[.agg #[.slice none 0 0], .int .i64 3]) := by
  unfold NatRes at h; rwa [if_neg hl] at h

theorem Num.below {W W' : World} {v : Value} {n : Nat} (h : Num W v n) (hb : Below W.heap.size W W') : Num W' v n := by
  obtain ⟨a, cap, e, hr⟩ := h
  exact ⟨a, cap, e, hr.below hb⟩
theorem Own.num {W : World} {B : Nat} {v : Value} {n : Nat} (h : Own W B v (M.dig n)) : Num W (.agg #[v]) n := by
  obtain ⟨a, cap, rfl, hr⟩ := h.row
  exact ⟨a, cap, rfl, hr⟩

/-- **append(s, x)**, s owned. -/
theorem wpList_app1 {W : World} {ops : Array Oper} {rest : List Oper} {o : Oper} {a : Act} {Q : Exit → Act → World → Prop} (hgd : o.guard = none) (s x : Operand)
    (ho : o.op = .call { callee := .builtin .append, args := #[s, x], argTypes := #[24, 24] }) {B : Nat} {v : Value} {zs : List Int} {z : Int} (hs : a.eval s = v) (hown : Own W B v zs)
    {b : Nat} (hx : a.eval x = .slice (some ⟨b, 0, none⟩) 1 1) (hc : W.cell? ⟨b, 0, none⟩ = some (.int .i64 z)) (hl : zs.length < 1000000) (hbase : B ≤ W.heap.size)
    (h : ∀ a' cap' W', Own W' B (.slice a' (zs ++ [z]).length cap') (zs ++ [z]) → Below B W W' → wpList Tryz.prog ops Q rest (a.put o.dst (.slice a' (zs.length + 1) cap')) W') : wpList Tryz.prog ops Q (o :: rest) a W := by
  obtain ⟨i0, hi, hz0, hz1, hz2⟩ := info_parts info_int
  refine wpList_append_own W hgd s x 24 ho B 3 i0 (.int .i64 0) 1 8 Tryz.underlying24 hi hz0 hz1 hz2 rfl (by decide) v zs.length (zs.map (Value.int .i64)) hs hown ⟨b, 0, none⟩ 1 1 [.int .i64 z] hx rfl ?_ ?_ (by unfold maxLen; omega) (by omega) hbase ?_
  · intro j u hj
    match j, hj with
    | 0, hj => simp at hj; subst hj; simpa [Addr.add] using hc
  · intro u hu; simp at hu; subst hu; rfl
  · intro v' W' hown' hgrow _
    have ho2 : Own W' B v' (zs ++ [z]) := by unfold Own; simpa using hown'
    have hB2 : Below B W W' := (Below.refl B W).grown hgrow hbase (fun k e => (World.ownsRow.lt hown k e).1)
    obtain ⟨a', cap', rfl, _⟩ := ho2.row
    have := h a' cap' W' ho2 hB2
    simpa using this
end Go.Proofs.YtmejneobfkbgeaaGreatDoor

namespace Go.Proofs.YtmejneobfkbgeaaGreatDoor
open Go Go.RowKit

theorem toNat_ofInt64 (x : Int) : ((BitVec.ofInt 64 x).toNat : Int) = x % 18446744073709551616 := by
  rw [BitVec.toNat_ofInt]
  have : (0 : Int) ≤ x % ((2 ^ 64 : Nat) : Int) := Int.emod_nonneg _ (by decide)
  rw [Int.toNat_of_nonneg this]
  rfl

theorem mask24 (x : Int) : bits BinOp.and IntKind.i64 x 16777215 = x % 16777216 := by
  show IntKind.i64.wrap ((BitVec.ofInt 64 x &&& BitVec.ofInt 64 16777215).toNat : Int) = _
  have h1 := toNat_ofInt64 x
  have h2 : (BitVec.ofInt 64 16777215).toNat = 2 ^ 24 - 1 := by decide
  rw [BitVec.toNat_and, h2, Nat.and_two_pow_sub_one_eq_mod, IntKind.wrap_i64]
  omega

theorem or24 (x y : Int) (hx : 0 ≤ x) (hx2 : x < 549755813888) (hy : 0 ≤ y) (hy2 : y < 16777216) : bits BinOp.or IntKind.i64 (x * 16777216) y = x * 16777216 + y := by
  show IntKind.i64.wrap ((BitVec.ofInt 64 (x * 16777216) ||| BitVec.ofInt 64 y).toNat : Int) = _
  have h1 := toNat_ofInt64 (x * 16777216)
  have h2 := toNat_ofInt64 y
  obtain ⟨a, rfl⟩ := Int.eq_ofNat_of_zero_le hx
  obtain ⟨b, rfl⟩ := Int.eq_ofNat_of_zero_le hy
  have e1 : (BitVec.ofInt 64 ((a : Int) * 16777216)).toNat = 2 ^ 24 * a := by omega
  have e2 : (BitVec.ofInt 64 (b : Int)).toNat = b := by omega
  rw [BitVec.toNat_or, e1, e2, ← Nat.two_pow_add_eq_or_of_lt (by omega), IntKind.wrap_i64]
  omega
end Go.Proofs.YtmejneobfkbgeaaGreatDoor

namespace Go.Proofs.YtmejneobfkbgeaaGreatDoor
open Go Go.RowKit Go.Shelf
attribute [local go_sem] mask24

/-- What holds in Of when m is still to be taken apart. -/
def OfRel (w : World) (N : Nat) (t v : Value) (wr : World) : Prop :=
  ∃ (m : Nat) (pre : List Int), t = .int .i64 (m : Int) ∧ m ≤ N ∧ Own wr (w.heap.size + 1) v pre ∧ M.dig N = pre ++ M.dig m ∧ wr.cell? ⟨w.heap.size, 0, none⟩ = some (.slice none 0 0) ∧ wr.frozen? ⟨w.heap.size, 0, none⟩ = false ∧ Below w.heap.size w wr

set_option maxRecDepth 100000 in
set_option maxHeartbeats 1000000 in
theorem of_any (N : Nat) (w : World) (hN : N ≤ 9223372036854775807) :
    Calls Tryz.prog 14 #[.int .i64 (N : Int)] w fun e W' => ∃ v, e = .returned (.tuple #[v, .int .i64 0]) ∧ Num W' v N ∧ Below w.heap.size w W' := by
  have HL := Lib.hid (M.dig_len_le.2 (Nat.lt_of_le_of_lt hN (by decide)) : (M.dig N).length ≤ 3)
  have c0 := cell_of_new w (.slice none 0 0) 41
  go_enter Tryz.func14, Tryz.ntmps14
  go_wp2
  go_loopw [0, 4] (fun t v wr => OfRel w N t v wr) (fun t _ _ => (intOf t).toNat)
  case atStart => exact ⟨N, [], rfl, Nat.le_refl _, Own.nil _ _, rfl, c0.1, c0.2, (Below.refl _ w).alloc (Nat.le_refl _) _⟩
  case round =>
    obtain ⟨m, pre, rfl, hm, hown, hdig, hc0, hf0, hB⟩ := hrel
    obtain ⟨a, cap, rfl, hr⟩ := hown.row
    have HR := Lib.hid hr
    clear hr
    have HD := Lib.hid hdig
    clear hdig
    by_cases h0 : m = 0
    · subst h0
      have HE := Lib.hid (show M.dig N = pre by rw [HD.out, M.dig_zero, List.append_nil])
      go_wp2
      refine bodyPost_ret (v := .tuple #[.agg #[.slice a pre.length cap], .int .i64 0]) (by simp [results, Tryz.results14, go_sem, hc0]) rfl ⟨.agg #[.slice a pre.length cap], rfl, ?_, hB.setCell (p := ⟨w.heap.size, 0, none⟩) (Nat.le_refl _) _⟩
      refine Own.num (B := w.heap.size + 1) ?_
      rw [HE.out]
      exact hown.setBelow (Nat.lt_succ_self _) _
    · have hm1 : 0 < m := by omega
      clear h0
      have hpre : pre.length < 1000000 := by have := HL.out; rw [HD.out, List.length_append] at this; omega
      have hsz := hB.size
      go_wp2_with (at_builtin; refine wpList_app1 rfl _ _ rfl rfl (hown.alloc _) rfl (cell_new _ _ _) hpre (by simp; omega) ?_; intro a' cap' W' hown' hb')
      go_roundw
      case rel =>
        refine ⟨m / 16777216, pre ++ [((m % 16777216 : Nat) : Int)], by go_num, by omega, by simpa using hown', by rw [HD.out, M.dig_pos (by omega), List.append_assoc]; rfl, (hb'.cell (p := ⟨w.heap.size, 0, none⟩) (by simp)).trans (cell_later _ hc0), (hb'.frozen (p := ⟨w.heap.size, 0, none⟩) (by simp)).trans (frozen_later _ hc0 hf0), hB.trans (((Below.refl _ wr).alloc hsz _).trans (hb'.mono (by omega)))⟩
      case measure => simp [intOf]; omega
end Go.Proofs.YtmejneobfkbgeaaGreatDoor

namespace Go.Proofs.YtmejneobfkbgeaaGreatDoor
open Go Go.RowKit Go.Shelf

/-- A valid number's limbs. -/
structure Vld (zs : List Int) : Prop where
  len : zs.length ≤ 200
  last : 0 < zs.length → M.el zs (zs.length - 1) ≠ 0
  lim : M.Lim zs

set_option maxHeartbeats 400000 in
theorem valid_yes (a : Option Addr) (zs : List Int) (cap : Nat) (w : World) (hR : Row w a zs cap) (hV : Vld zs) :
    Calls Tryz.prog 46 #[.agg #[.slice a zs.length cap]] w fun e W' => e = .returned (.bool true) ∧ Below w.heap.size w W' := by
  have hroom := hR.room
  have hmost := hR.most
  have hlen := hV.len
  have HR := Lib.hid (hR.alloc (.cells #[.slice a zs.length cap] 41))
  have HV := Lib.hid hV
  clear hR hV
  by_cases h0 : 0 < zs.length
  · obtain ⟨b, off, rfl, hc⟩ := HR.out.el (zs.length - 1) (by omega)
    have hz : (M.el zs (zs.length - 1) == 0) = false := by have := HV.out.last h0; simp [this]
    go_enter Tryz.func46, Tryz.ntmps46
    go_wp2
    go_loop [27] (fun i => ∃ k : Nat, k ≤ zs.length ∧ i = .int .i64 k) (fun i => zs.length - (intOf i).toNat)
    case atStart => exact ⟨0, Nat.zero_le _, rfl⟩
    case round =>
      obtain ⟨k, hk, rfl⟩ := hrel
      have hl := HV.out.lim.get k
      by_cases hlt : k < zs.length
      · have hck := HR.out.cell k hlt
        go_wp2
        go_round
        case rel => exact ⟨k + 1, by omega, by go_num⟩
        case measure => simp [intOf]; omega
      · go_wp2
        go_ret
        exact ⟨rfl, (Below.refl _ w).alloc (Nat.le_refl _) _⟩
  · have h0' : zs.length = 0 := by omega
    have hzs : zs = [] := List.length_eq_zero_iff.1 h0'
    subst hzs
    clear h0 HR HV
    go_enter Tryz.func46, Tryz.ntmps46
    go_wp2
    go_loop [27] (fun i => i = .int .i64 0) (fun _ => 0)
    case atStart => rfl
    case round =>
      obtain rfl := hrel
      go_wp2
      go_ret
      exact ⟨rfl, (Below.refl _ w).alloc (Nat.le_refl _) _⟩
end Go.Proofs.YtmejneobfkbgeaaGreatDoor

namespace Go.Proofs.YtmejneobfkbgeaaGreatDoor
open Go Go.RowKit Go.Shelf
attribute [local go_sem] mask24

theorem vld_dig {n : Nat} (h : (M.dig n).length ≤ 200) : Vld (M.dig n) := by
  refine ⟨h, fun h0 => ?_, M.lim_dig n⟩
  have hn : n ≠ 0 := by intro e; rw [e, M.dig_zero] at h0; simp at h0
  have := M.dig_last hn
  rw [M.el_lt (by omega)]
  intro e
  apply this
  rw [List.getLast?_eq_getElem?, List.getElem?_eq_getElem (by omega), e]

/-- The world behind the three boxes with which Add and its kin begin. -/
def boxes (w : World) (u v : Value) : World := ((w.alloc (.cells #[u] 41)).alloc (.cells #[v] 41)).alloc (.cells #[.slice none 0 0] 41)

theorem boxes_size (w : World) (u v : Value) : (boxes w u v).heap.size = w.heap.size + 3 := by simp [boxes]
theorem boxes_below (w : World) (u v : Value) : Below w.heap.size w (boxes w u v) := (((Below.refl _ w).alloc (Nat.le_refl _) _).alloc (by simp) _).alloc (by simp; omega) _
theorem boxes_cells (w : World) (u v : Value) : (boxes w u v).cell? ⟨w.heap.size, 0, none⟩ = some u ∧ (boxes w u v).cell? ⟨w.heap.size + 1, 0, none⟩ = some v ∧ (boxes w u v).cell? ⟨w.heap.size + 1 + 1, 0, none⟩ = some (.slice none 0 0) ∧ (boxes w u v).frozen? ⟨w.heap.size + 1 + 1, 0, none⟩ = false := by
  have h0 := cell_new w u 41
  have h1 := cell_new (w.alloc (.cells #[u] 41)) v 41
  have h2 := cell_new ((w.alloc (.cells #[u] 41)).alloc (.cells #[v] 41)) (.slice none 0 0) 41
  have h3 := frozen_new ((w.alloc (.cells #[u] 41)).alloc (.cells #[v] 41)) (.slice none 0 0) 41
  simp only [World.size_alloc] at h1 h2 h3
  exact ⟨cell_later _ (cell_later _ h0), cell_later _ h1, h2, h3⟩

def AddRel (w w3 : World) (g n x y : Nat) (c i : Value) (W : World) : Prop :=
  ∃ (k : Nat) (zs : List Int) (q : Int), i = .int .i64 (k : Int) ∧ c = .int .i64 q ∧ k ≤ n + 1 ∧ zs.length = n + 1 ∧ M.Lim zs ∧ 0 ≤ q ∧ q ≤ 1 ∧
    M.val (zs.take k) + 16777216 ^ k * q = M.val ((M.dig x).take k) + M.val ((M.dig y).take k) ∧ Own W (w.heap.size + 3) (.slice (some ⟨g, 0, none⟩) zs.length (n + 1)) zs ∧ Below (w.heap.size + 3) w3 W

set_option maxRecDepth 100000 in
set_option maxHeartbeats 2000000 in
theorem add_lt (a b : Option Addr) (ca cb x y : Nat) (w : World) (hx : (M.dig x).length ≤ 200) (hy : (M.dig y).length ≤ 200) (ha : Row w a (M.dig x) ca) (hb : Row w b (M.dig y) cb) (hle : (M.dig x).length < (M.dig y).length) :
    Calls Tryz.prog 86 #[.agg #[.slice a (M.dig x).length ca], .agg #[.slice b (M.dig y).length cb]] w fun e W' =>
      NatRes (x + y) e W' ∧ Below w.heap.size w W' := by
  have Hvx := Lib.hid (vld_dig hx)
  have Hvy := Lib.hid (vld_dig hy)
  have hB3 := boxes_below w (.slice a (M.dig x).length ca) (.slice b (M.dig y).length cb)
  have hsz := boxes_size w (.slice a (M.dig x).length ca) (.slice b (M.dig y).length cb)
  have HA := Lib.hid (ha.below hB3)
  have HB := Lib.hid (hb.below hB3)
  have HC := Lib.hid (boxes_cells w (.slice a (M.dig x).length ca) (.slice b (M.dig y).length cb))
  have HB3 := Lib.hid hB3
  have HSZ := Lib.hid hsz
  have hla : (M.dig x).length ≤ ca := ha.room
  have hlb : (M.dig y).length ≤ cb := hb.room
  have hma := ha.most
  have hmb := hb.most
  clear ha hb hB3 hsz
  go_enter Tryz.func86, Tryz.ntmps86
  go_wp2_with fail
  generalize hw3 : (((w.alloc (.cells #[.slice a (M.dig x).length ca] 41)).alloc (.cells #[.slice b (M.dig y).length cb] 41)).alloc (.cells #[.slice none 0 0] 41)) = w3
  obtain rfl : boxes w (.slice a (M.dig x).length ca) (.slice b (M.dig y).length cb) = w3 := hw3
  generalize boxes w (.slice a (M.dig x).length ca) (.slice b (M.dig y).length cb) = w3 at *
  refine (valid_yes a _ ca _ HA.out Hvx.out).mono ?_
  rintro e w4 ⟨rfl, hb4⟩
  have hsz4 := hb4.size
  have c1 := (hb4.cell (p := ⟨w.heap.size + 1, 0, none⟩) (by rw [HSZ.out]; simp)).trans HC.out.2.1
  go_wp2_with fail
  refine (valid_yes b _ cb _ (HB.out.below hb4) Hvy.out).mono ?_
  rintro e w5 ⟨rfl, hb5⟩
  have hsz5 := hb5.size
  have c0 := (hb5.cell (p := ⟨w.heap.size, 0, none⟩) (by have := HSZ.out; simp; omega)).trans ((hb4.cell (p := ⟨w.heap.size, 0, none⟩) (by rw [HSZ.out]; simp)).trans HC.out.1)
  replace c1 := (hb5.cell (p := ⟨w.heap.size + 1, 0, none⟩) (by have := HSZ.out; simp; omega)).trans c1
  have HD : Hid (w.heap.size + 3 ≤ w5.heap.size ∧ Below w3.heap.size w3 w5) := ⟨by have := HSZ.out; omega, hb4.trans (hb5.mono hb4.size)⟩
  clear hb4 hb5 hsz4 hsz5
  go_wp2_with (at_make; refine wpList_make1 rfl _ _ rfl ((M.dig y).length + 1) rfl rfl (by omega) (by omega) HD.out.1 ?_; intro w6 hown6 hb6)
  generalize w5.heap.size = g at *
  replace HD : Hid (Below (w.heap.size + 3) w3 w6) := (HD.out.2.mono (by rw [HSZ.out]; exact Nat.le_refl _)).trans hb6
  clear c0 c1 hb6
  go_loopw [7, 29] (fun c i wr => AddRel w w3 g (M.dig y).length x y c i wr) (fun _ i _ => (M.dig y).length + 1 - (intOf i).toNat)
  case atStart => exact ⟨0, _, 0, rfl, rfl, Nat.zero_le _, List.length_replicate, M.Lim.replicate _, by omega, by omega, by simp [M.val], by simpa using hown6, HD.out⟩
  case round =>
    obtain ⟨k, zs, q, hi, hc, hk, hlen, hlim, hq0, hq1, hval, hown, hbW⟩ := hrel
    subst hi hc
    clear hown6 HD
    have hsW := hbW.size
    have c0 := (hbW.cell (p := ⟨w.heap.size, 0, none⟩) (by simp)).trans HC.out.1
    have c1 := (hbW.cell (p := ⟨w.heap.size + 1, 0, none⟩) (by simp)).trans HC.out.2.1
    have c2 := (hbW.cell (p := ⟨w.heap.size + 1 + 1, 0, none⟩) (by simp)).trans HC.out.2.2.1
    have f2 := (hbW.frozen (p := ⟨w.heap.size + 1 + 1, 0, none⟩) (by simp)).trans HC.out.2.2.2
    have HBW := Lib.hid hbW
    clear hbW
    have HVAL := Lib.hid hval
    have HLN := Lib.hid hlen
    have HLIM := Lib.hid hlim
    have HOWN := Lib.hid hown
    clear hval hlen hlim hown
    have hRA : Row wr a (M.dig x) ca := HA.out.below (HBW.out.mono (by rw [HSZ.out]; exact Nat.le_refl _))
    have hRB : Row wr b (M.dig y) cb := HB.out.below (HBW.out.mono (by rw [HSZ.out]; exact Nat.le_refl _))
    by_cases hlt : k < (M.dig y).length + 1
    · have h1 := (M.lim_dig x).get k
      have h2 := (M.lim_dig y).get k
      have HRA := Lib.hid hRA
      have HRB := Lib.hid hRB
      clear hRA hRB
      obtain ⟨hgB, hcz, hfz⟩ := HOWN.out.at k (by rw [HLN.out]; exact hlt)
      go_wp2_with fail
      go_quiet ((go_at_call 131; first | exact Calls.quiet_of_same (limbAt_any _ _ _ _ _ (by first | exact HRA.out | exact HRA.out.drewN _)) | exact Calls.quiet_of_same (limbAt_any _ _ _ _ _ (by first | exact HRB.out | exact HRB.out.drewN _))))
      go_wp2
      go_roundw
      case rel =>
        refine ⟨k + 1, zs.set k ((q + (M.el (M.dig x) k + M.el (M.dig y) k)) % 16777216), _, by go_num, rfl, by omega, by rw [List.length_set]; exact HLN.out, HLIM.out.set k (by omega) (by omega), by omega, by omega, ?_, ?_, (belowN HBW.out nq).setCell (p := ⟨g, k, none⟩) hgB _⟩
        · rw [M.val_set_succ _ _ _ (by rw [HLN.out]; exact hlt), M.val_take_succ', M.val_take_succ', Int.pow_succ]
          exact M.add_step HVAL.out
        · rw [List.length_set]
          exact (HOWN.out.drewN nq).set k _
      case measure => simp [intOf]; omega
    · have hk' : k = (M.dig y).length + 1 := by omega
      have hx2 : (M.dig x).length ≤ (M.dig y).length + 0 := by omega
      have hy2 : (M.dig y).length ≤ (M.dig y).length + 0 := by omega
      have hend : M.trimL zs = M.dig (x + y) := by
        refine M.add_end HLIM.out hx2 hy2 hq0 (c := q) ?_
        have hv := HVAL.out
        rw [List.take_of_length_le (by rw [HLN.out]; omega), List.take_of_length_le (by omega), List.take_of_length_le (by omega), M.val_dig, M.val_dig, hk'] at hv
        exact hv
      have hw := within_any _ zs _ wr HOWN.out.rowAt
      have ho := HOWN.out.trimmed
      rw [HLN.out] at hw
      rw [hend] at hw ho
      obtain ⟨a', c', hcut⟩ := cut_slice (some ⟨g, 0, none⟩) ((M.dig y).length + 1) (M.dig (x + y))
      rw [hcut] at hw ho
      clear hRA hRB hend hcut
      have HO := Lib.hid ho
      have HK := Lib.hid hk'
      clear ho hk'
      have hs2 : w.heap.size + 1 + 1 < wr.heap.size := by have := HSZ.out; omega
      by_cases h200 : (M.dig (x + y)).length ≤ 200
      · rw [if_pos h200] at hw
        have HW := Lib.hid hw
        clear hw
        go_wp2_with (go_at_call 132; refine HW.out.mono ?_; rintro e w7 ⟨rfl, hb7⟩; have d2 := (hb7.cell (p := ⟨w.heap.size + 1 + 1, 0, none⟩) hs2).trans c2; have g2 := (hb7.frozen (p := ⟨w.heap.size + 1 + 1, 0, none⟩) hs2).trans f2)
        refine bodyPost_ret (v := .tuple #[.agg #[.slice a' (M.dig (x + y)).length c'], .int .i64 0]) (by simp [results, Tryz.results86, go_sem, d2]) rfl ⟨natRes_ok h200 ?_, ?_⟩
        · exact ((HO.out.below hb7).setBelow (p := ⟨w.heap.size + 1 + 1, 0, none⟩) (by simp) _).num
        · exact ((HB3.out.trans (HBW.out.mono (by omega))).trans (hb7.mono (by have := HSZ.out; omega))).setCell (p := ⟨w.heap.size + 1 + 1, 0, none⟩) (by simp; omega) _
      · rw [if_neg h200] at hw
        have HW := Lib.hid hw
        clear hw
        go_wp2_with (go_at_call 132; refine HW.out.mono ?_; rintro e w7 ⟨rfl, hb7⟩; have d2 := (hb7.cell (p := ⟨w.heap.size + 1 + 1, 0, none⟩) hs2).trans c2; have g2 := (hb7.frozen (p := ⟨w.heap.size + 1 + 1, 0, none⟩) hs2).trans f2)
        refine bodyPost_ret (v := .tuple #[.agg #[.slice none 0 0], .int .i64 3]) (by simp [results, Tryz.results86, go_sem, d2]) rfl ⟨natRes_limit h200, ?_⟩
        exact ((HB3.out.trans (HBW.out.mono (by omega))).trans (hb7.mono (by have := HSZ.out; omega))).setCell (p := ⟨w.heap.size + 1 + 1, 0, none⟩) (by simp; omega) _

set_option maxRecDepth 100000 in
set_option maxHeartbeats 2000000 in
theorem add_ge (a b : Option Addr) (ca cb x y : Nat) (w : World) (hx : (M.dig x).length ≤ 200) (hy : (M.dig y).length ≤ 200) (ha : Row w a (M.dig x) ca) (hb : Row w b (M.dig y) cb) (hle : (M.dig y).length ≤ (M.dig x).length) :
    Calls Tryz.prog 86 #[.agg #[.slice a (M.dig x).length ca], .agg #[.slice b (M.dig y).length cb]] w fun e W' =>
      NatRes (x + y) e W' ∧ Below w.heap.size w W' := by
  have Hvx := Lib.hid (vld_dig hx)
  have Hvy := Lib.hid (vld_dig hy)
  have hB3 := boxes_below w (.slice a (M.dig x).length ca) (.slice b (M.dig y).length cb)
  have hsz := boxes_size w (.slice a (M.dig x).length ca) (.slice b (M.dig y).length cb)
  have HA := Lib.hid (ha.below hB3)
  have HB := Lib.hid (hb.below hB3)
  have HC := Lib.hid (boxes_cells w (.slice a (M.dig x).length ca) (.slice b (M.dig y).length cb))
  have HB3 := Lib.hid hB3
  have HSZ := Lib.hid hsz
  have hla : (M.dig x).length ≤ ca := ha.room
  have hlb : (M.dig y).length ≤ cb := hb.room
  have hma := ha.most
  have hmb := hb.most
  clear ha hb hB3 hsz
  go_enter Tryz.func86, Tryz.ntmps86
  go_wp2_with fail
  generalize hw3 : (((w.alloc (.cells #[.slice a (M.dig x).length ca] 41)).alloc (.cells #[.slice b (M.dig y).length cb] 41)).alloc (.cells #[.slice none 0 0] 41)) = w3
  obtain rfl : boxes w (.slice a (M.dig x).length ca) (.slice b (M.dig y).length cb) = w3 := hw3
  generalize boxes w (.slice a (M.dig x).length ca) (.slice b (M.dig y).length cb) = w3 at *
  refine (valid_yes a _ ca _ HA.out Hvx.out).mono ?_
  rintro e w4 ⟨rfl, hb4⟩
  have hsz4 := hb4.size
  have c1 := (hb4.cell (p := ⟨w.heap.size + 1, 0, none⟩) (by rw [HSZ.out]; simp)).trans HC.out.2.1
  go_wp2_with fail
  refine (valid_yes b _ cb _ (HB.out.below hb4) Hvy.out).mono ?_
  rintro e w5 ⟨rfl, hb5⟩
  have hsz5 := hb5.size
  have c0 := (hb5.cell (p := ⟨w.heap.size, 0, none⟩) (by have := HSZ.out; simp; omega)).trans ((hb4.cell (p := ⟨w.heap.size, 0, none⟩) (by rw [HSZ.out]; simp)).trans HC.out.1)
  replace c1 := (hb5.cell (p := ⟨w.heap.size + 1, 0, none⟩) (by have := HSZ.out; simp; omega)).trans c1
  have HD : Hid (w.heap.size + 3 ≤ w5.heap.size ∧ Below w3.heap.size w3 w5) := ⟨by have := HSZ.out; omega, hb4.trans (hb5.mono hb4.size)⟩
  clear hb4 hb5 hsz4 hsz5
  go_wp2_with (at_make; refine wpList_make1 rfl _ _ rfl ((M.dig x).length + 1) rfl rfl (by omega) (by omega) HD.out.1 ?_; intro w6 hown6 hb6)
  generalize w5.heap.size = g at *
  replace HD : Hid (Below (w.heap.size + 3) w3 w6) := (HD.out.2.mono (by rw [HSZ.out]; exact Nat.le_refl _)).trans hb6
  clear c0 c1 hb6
  go_loopw [7, 29] (fun c i wr => AddRel w w3 g (M.dig x).length x y c i wr) (fun _ i _ => (M.dig x).length + 1 - (intOf i).toNat)
  case atStart => exact ⟨0, _, 0, rfl, rfl, Nat.zero_le _, List.length_replicate, M.Lim.replicate _, by omega, by omega, by simp [M.val], by simpa using hown6, HD.out⟩
  case round =>
    obtain ⟨k, zs, q, hi, hc, hk, hlen, hlim, hq0, hq1, hval, hown, hbW⟩ := hrel
    subst hi hc
    clear hown6 HD
    have hsW := hbW.size
    have c0 := (hbW.cell (p := ⟨w.heap.size, 0, none⟩) (by simp)).trans HC.out.1
    have c1 := (hbW.cell (p := ⟨w.heap.size + 1, 0, none⟩) (by simp)).trans HC.out.2.1
    have c2 := (hbW.cell (p := ⟨w.heap.size + 1 + 1, 0, none⟩) (by simp)).trans HC.out.2.2.1
    have f2 := (hbW.frozen (p := ⟨w.heap.size + 1 + 1, 0, none⟩) (by simp)).trans HC.out.2.2.2
    have HBW := Lib.hid hbW
    clear hbW
    have HVAL := Lib.hid hval
    have HLN := Lib.hid hlen
    have HLIM := Lib.hid hlim
    have HOWN := Lib.hid hown
    clear hval hlen hlim hown
    have hRA : Row wr a (M.dig x) ca := HA.out.below (HBW.out.mono (by rw [HSZ.out]; exact Nat.le_refl _))
    have hRB : Row wr b (M.dig y) cb := HB.out.below (HBW.out.mono (by rw [HSZ.out]; exact Nat.le_refl _))
    by_cases hlt : k < (M.dig x).length + 1
    · have h1 := (M.lim_dig x).get k
      have h2 := (M.lim_dig y).get k
      have HRA := Lib.hid hRA
      have HRB := Lib.hid hRB
      clear hRA hRB
      obtain ⟨hgB, hcz, hfz⟩ := HOWN.out.at k (by rw [HLN.out]; exact hlt)
      go_wp2_with fail
      go_quiet ((go_at_call 131; first | exact Calls.quiet_of_same (limbAt_any _ _ _ _ _ (by first | exact HRA.out | exact HRA.out.drewN _)) | exact Calls.quiet_of_same (limbAt_any _ _ _ _ _ (by first | exact HRB.out | exact HRB.out.drewN _))))
      go_wp2
      go_roundw
      case rel =>
        refine ⟨k + 1, zs.set k ((q + (M.el (M.dig x) k + M.el (M.dig y) k)) % 16777216), _, by go_num, rfl, by omega, by rw [List.length_set]; exact HLN.out, HLIM.out.set k (by omega) (by omega), by omega, by omega, ?_, ?_, (belowN HBW.out nq).setCell (p := ⟨g, k, none⟩) hgB _⟩
        · rw [M.val_set_succ _ _ _ (by rw [HLN.out]; exact hlt), M.val_take_succ', M.val_take_succ', Int.pow_succ]
          exact M.add_step HVAL.out
        · rw [List.length_set]
          exact (HOWN.out.drewN nq).set k _
      case measure => simp [intOf]; omega
    · have hk' : k = (M.dig x).length + 1 := by omega
      have hx2 : (M.dig x).length ≤ (M.dig x).length + 0 := by omega
      have hy2 : (M.dig y).length ≤ (M.dig x).length + 0 := by omega
      have hend : M.trimL zs = M.dig (x + y) := by
        refine M.add_end HLIM.out hx2 hy2 hq0 (c := q) ?_
        have hv := HVAL.out
        rw [List.take_of_length_le (by rw [HLN.out]; omega), List.take_of_length_le (by omega), List.take_of_length_le (by omega), M.val_dig, M.val_dig, hk'] at hv
        exact hv
      have hw := within_any _ zs _ wr HOWN.out.rowAt
      have ho := HOWN.out.trimmed
      rw [HLN.out] at hw
      rw [hend] at hw ho
      obtain ⟨a', c', hcut⟩ := cut_slice (some ⟨g, 0, none⟩) ((M.dig x).length + 1) (M.dig (x + y))
      rw [hcut] at hw ho
      clear hRA hRB hend hcut
      have HO := Lib.hid ho
      have HK := Lib.hid hk'
      clear ho hk'
      have hs2 : w.heap.size + 1 + 1 < wr.heap.size := by have := HSZ.out; omega
      by_cases h200 : (M.dig (x + y)).length ≤ 200
      · rw [if_pos h200] at hw
        have HW := Lib.hid hw
        clear hw
        go_wp2_with (go_at_call 132; refine HW.out.mono ?_; rintro e w7 ⟨rfl, hb7⟩; have d2 := (hb7.cell (p := ⟨w.heap.size + 1 + 1, 0, none⟩) hs2).trans c2; have g2 := (hb7.frozen (p := ⟨w.heap.size + 1 + 1, 0, none⟩) hs2).trans f2)
        refine bodyPost_ret (v := .tuple #[.agg #[.slice a' (M.dig (x + y)).length c'], .int .i64 0]) (by simp [results, Tryz.results86, go_sem, d2]) rfl ⟨natRes_ok h200 ?_, ?_⟩
        · exact ((HO.out.below hb7).setBelow (p := ⟨w.heap.size + 1 + 1, 0, none⟩) (by simp) _).num
        · exact ((HB3.out.trans (HBW.out.mono (by omega))).trans (hb7.mono (by have := HSZ.out; omega))).setCell (p := ⟨w.heap.size + 1 + 1, 0, none⟩) (by simp; omega) _
      · rw [if_neg h200] at hw
        have HW := Lib.hid hw
        clear hw
        go_wp2_with (go_at_call 132; refine HW.out.mono ?_; rintro e w7 ⟨rfl, hb7⟩; have d2 := (hb7.cell (p := ⟨w.heap.size + 1 + 1, 0, none⟩) hs2).trans c2; have g2 := (hb7.frozen (p := ⟨w.heap.size + 1 + 1, 0, none⟩) hs2).trans f2)
        refine bodyPost_ret (v := .tuple #[.agg #[.slice none 0 0], .int .i64 3]) (by simp [results, Tryz.results86, go_sem, d2]) rfl ⟨natRes_limit h200, ?_⟩
        exact ((HB3.out.trans (HBW.out.mono (by omega))).trans (hb7.mono (by have := HSZ.out; omega))).setCell (p := ⟨w.heap.size + 1 + 1, 0, none⟩) (by simp; omega) _


/-- **nat.Add** of two numbers. -/
theorem add_num {u v : Value} {x y : Nat} {w : World} (hx : (M.dig x).length ≤ 200) (hy : (M.dig y).length ≤ 200) (hu : Num w u x) (hv : Num w v y) :
    Calls Tryz.prog 86 #[u, v] w fun e W' => NatRes (x + y) e W' ∧ Below w.heap.size w W' := by
  obtain ⟨a, ca, rfl, ha⟩ := hu
  obtain ⟨b, cb, rfl, hb⟩ := hv
  rcases Nat.lt_or_ge (M.dig x).length (M.dig y).length with h | h
  · exact add_lt a b ca cb x y w hx hy ha hb h
  · exact add_ge a b ca cb x y w hx hy ha hb h
end Go.Proofs.YtmejneobfkbgeaaGreatDoor

namespace Go.Proofs.YtmejneobfkbgeaaGreatDoor
open Go Go.RowKit Go.Shelf
attribute [local go_sem] mask24

def MulRel (w w3 : World) (g x y : Nat) (i : Value) (W : World) : Prop :=
  ∃ (k : Nat) (zs : List Int), i = .int .i64 (k : Int) ∧ k ≤ (M.dig x).length ∧ zs.length = (M.dig x).length + (M.dig y).length ∧ M.Lim zs ∧ (∀ m : Nat, k + (M.dig y).length ≤ m → M.el zs m = 0) ∧
    M.val zs = M.val ((M.dig x).take k) * y ∧ Own W (w.heap.size + 3) (.slice (some ⟨g, 0, none⟩) zs.length zs.length) zs ∧ Below (w.heap.size + 3) w3 W

def MulIn (w w3 : World) (g x y k : Nat) (c i : Value) (W : World) : Prop :=
  ∃ (j : Nat) (zs : List Int) (q : Int), i = .int .i64 (j : Int) ∧ c = .int .i64 q ∧ j ≤ (M.dig y).length ∧ zs.length = (M.dig x).length + (M.dig y).length ∧ M.Lim zs ∧ (∀ m : Nat, k + (M.dig y).length ≤ m → M.el zs m = 0) ∧ 0 ≤ q ∧ q < 16777216 ∧
    M.val zs + 16777216 ^ (k + j) * q = M.val ((M.dig x).take k) * y + 16777216 ^ k * (M.el (M.dig x) k * M.val ((M.dig y).take j)) ∧ Own W (w.heap.size + 3) (.slice (some ⟨g, 0, none⟩) zs.length zs.length) zs ∧ Below (w.heap.size + 3) w3 W

set_option maxRecDepth 100000 in
set_option maxHeartbeats 2000000 in
theorem mul_any (a b : Option Addr) (ca cb x y : Nat) (w : World) (hx : (M.dig x).length ≤ 200) (hy : (M.dig y).length ≤ 200) (ha : Row w a (M.dig x) ca) (hb : Row w b (M.dig y) cb) :
    Calls Tryz.prog 94 #[.agg #[.slice a (M.dig x).length ca], .agg #[.slice b (M.dig y).length cb]] w fun e W' => NatRes (x * y) e W' ∧ Below w.heap.size w W' := by
  have Hvx := Lib.hid (vld_dig hx)
  have Hvy := Lib.hid (vld_dig hy)
  have hB3 := boxes_below w (.slice a (M.dig x).length ca) (.slice b (M.dig y).length cb)
  have hsz := boxes_size w (.slice a (M.dig x).length ca) (.slice b (M.dig y).length cb)
  have HA := Lib.hid (ha.below hB3)
  have HB := Lib.hid (hb.below hB3)
  have HC := Lib.hid (boxes_cells w (.slice a (M.dig x).length ca) (.slice b (M.dig y).length cb))
  have HB3 := Lib.hid hB3
  have HSZ := Lib.hid hsz
  have hla : (M.dig x).length ≤ ca := ha.room
  have hlb : (M.dig y).length ≤ cb := hb.room
  have hma := ha.most
  have hmb := hb.most
  clear ha hb hB3 hsz
  go_enter Tryz.func94, Tryz.ntmps94
  go_wp2_with fail
  generalize hw3 : (((w.alloc (.cells #[.slice a (M.dig x).length ca] 41)).alloc (.cells #[.slice b (M.dig y).length cb] 41)).alloc (.cells #[.slice none 0 0] 41)) = w3
  obtain rfl : boxes w (.slice a (M.dig x).length ca) (.slice b (M.dig y).length cb) = w3 := hw3
  generalize boxes w (.slice a (M.dig x).length ca) (.slice b (M.dig y).length cb) = w3 at *
  refine (valid_yes a _ ca _ HA.out Hvx.out).mono ?_
  rintro e w4 ⟨rfl, hb4⟩
  have hsz4 := hb4.size
  have c1 := (hb4.cell (p := ⟨w.heap.size + 1, 0, none⟩) (by rw [HSZ.out]; simp)).trans HC.out.2.1
  go_wp2_with fail
  refine (valid_yes b _ cb _ (HB.out.below hb4) Hvy.out).mono ?_
  rintro e w5 ⟨rfl, hb5⟩
  have hsz5 := hb5.size
  have c0 := (hb5.cell (p := ⟨w.heap.size, 0, none⟩) (by have := HSZ.out; simp; omega)).trans ((hb4.cell (p := ⟨w.heap.size, 0, none⟩) (by rw [HSZ.out]; simp)).trans HC.out.1)
  replace c1 := (hb5.cell (p := ⟨w.heap.size + 1, 0, none⟩) (by have := HSZ.out; simp; omega)).trans c1
  have HD : Hid (w.heap.size + 3 ≤ w5.heap.size ∧ Below w3.heap.size w3 w5) := ⟨by have := HSZ.out; omega, hb4.trans (hb5.mono hb4.size)⟩
  clear hb4 hb5 hsz4 hsz5
  have hn3 := HSZ.out
  have hn5 := HD.out.2.size
  have HN3 := Lib.hid hn3
  clear hn3
  have hs5 : w.heap.size + 1 < w5.heap.size := by have := HD.out.1; omega
  go_wp2_with (at_make; refine wpList_make1 rfl _ _ rfl ((M.dig x).length + (M.dig y).length) rfl rfl (by omega) (by omega) HD.out.1 ?_; intro w6 hown6 hb6; have e0 := (hb6.cell (p := ⟨w.heap.size, 0, none⟩) (by simp)).trans c0; have e1 := (hb6.cell (p := ⟨w.heap.size + 1, 0, none⟩) (by simp)).trans c1)
  clear c0 c1
  generalize w5.heap.size = g at *
  replace HD : Hid (Below (w.heap.size + 3) w3 w6) := (HD.out.2.mono (by rw [HSZ.out]; exact Nat.le_refl _)).trans hb6
  clear hb6 e0 e1 hn5 hs5
  have hlx : (M.dig x).length ≤ 200 := hx
  go_loopw [32] (fun i wr => MulRel w w3 g x y i wr) (fun i _ => (M.dig x).length - (intOf i).toNat)
  case atStart => exact ⟨0, _, rfl, Nat.zero_le _, List.length_replicate, M.Lim.replicate _, fun m _ => M.el_replicate _ _, by simp [M.val_replicate, M.val], by simpa using hown6, HD.out⟩
  case round =>
    obtain ⟨k, zs, rfl, hk, hlen, hlim, hz, hval, hown, hbW⟩ := hrel
    clear hown6 HD
    obtain ⟨wo, hwo⟩ : ∃ wo : World, wo = wr := ⟨_, rfl⟩
    have c0 := (hbW.cell (p := ⟨w.heap.size, 0, none⟩) (by simp)).trans HC.out.1
    have c1 := (hbW.cell (p := ⟨w.heap.size + 1, 0, none⟩) (by simp)).trans HC.out.2.1
    have c2 := (hbW.cell (p := ⟨w.heap.size + 1 + 1, 0, none⟩) (by simp)).trans HC.out.2.2.1
    have f2 := (hbW.frozen (p := ⟨w.heap.size + 1 + 1, 0, none⟩) (by simp)).trans HC.out.2.2.2
    have HRA := Lib.hid (show Row wr a (M.dig x) ca from HA.out.below (hbW.mono (by rw [HSZ.out]; exact Nat.le_refl _)))
    subst hwo
    have HBW := Lib.hid hbW
    have HVAL := Lib.hid hval
    have HLN := Lib.hid hlen
    have HLIM := Lib.hid hlim
    have HZ := Lib.hid hz
    have HOWN := Lib.hid hown
    clear hval hlen hlim hown hz hbW
    by_cases hlt : k < (M.dig x).length
    · have hax := (M.lim_dig x).get k
      obtain ⟨b1, o1, rfl, hca⟩ := HRA.out.el k hlt
      go_wp2
      go_loopw [9, 40] (fun c i wr => MulIn w w3 g x y k c i wr) (fun _ i _ => (M.dig y).length - (intOf i).toNat)
      case atStart => exact ⟨0, zs, 0, rfl, rfl, Nat.zero_le _, HLN.out, HLIM.out, HZ.out, by omega, by omega, by rw [HVAL.out]; simp [M.val], HOWN.out, HBW.out⟩
      case round =>
        clear c0 c1 c2 f2 hca
        obtain ⟨j, zs, q, rfl, rfl, hj, hlen, hlim, hz, hq0, hq1, hval, hown, hbW⟩ := hrel
        have c1 := (hbW.cell (p := ⟨w.heap.size + 1, 0, none⟩) (by simp)).trans HC.out.2.1
        have HRB := Lib.hid (show Row wr b (M.dig y) cb from HB.out.below (hbW.mono (by rw [HSZ.out]; exact Nat.le_refl _)))
        clear HBW HVAL HLN HLIM HZ HOWN HRA
        have HBW := Lib.hid hbW
        have HVAL := Lib.hid hval
        have HLN := Lib.hid hlen
        have HLIM := Lib.hid hlim
        have HZ := Lib.hid hz
        have HOWN := Lib.hid hown
        clear hval hlen hlim hown hz hbW
        by_cases hlj : j < (M.dig y).length
        · have hby := (M.lim_dig y).get j
          have hmb := M.mul_bound hax hby
          have hez := HLIM.out.get (k + j)
          obtain ⟨b2, o2, rfl, hcb⟩ := HRB.out.el j hlj
          obtain ⟨hgB, hcz, hfz⟩ := HOWN.out.at (k + j) (by rw [HLN.out]; omega)
          go_wp2
          go_roundw
          case rel =>
            refine ⟨j + 1, zs.set (k + j) ((q + (M.el zs (k + j) + M.el (M.dig x) k * M.el (M.dig y) j)) % 16777216), _, by go_num, rfl, by omega, by rw [List.length_set]; exact HLN.out, HLIM.out.set _ (by omega) (by omega), fun m hm => ?_, by omega, by omega, ?_, by simp only [List.length_set]; exact HOWN.out.set _ _, HBW.out.setCell (p := ⟨g, k + j, none⟩) hgB _⟩
            · rw [M.el_set _ _ _ _ (by rw [HLN.out]; omega), if_neg (by omega)]; exact HZ.out m hm
            · rw [M.val_set _ _ _ (by rw [HLN.out]; omega), M.val_take_succ', ← Nat.add_assoc, Int.pow_succ]
              exact M.mul_step (Int.pow_add ..) HVAL.out
          case measure => simp [intOf]; omega
        · obtain ⟨hgB, hcz, hfz⟩ := HOWN.out.at (k + (M.dig y).length) (by rw [HLN.out]; omega)
          have hj' : j = (M.dig y).length := by omega
          have hv := HVAL.out
          rw [List.take_of_length_le (l := M.dig y) (by omega), M.val_dig, hj'] at hv
          have HV := Lib.hid hv
          clear hv hj'
          go_wp2
          go_roundw
          case rel =>
            refine ⟨k + 1, zs.set (k + (M.dig y).length) q, by go_num, by omega, by rw [List.length_set]; exact HLN.out, HLIM.out.set _ hq0 hq1, fun m hm => ?_, ?_, by simp only [List.length_set]; exact HOWN.out.set _ _, HBW.out.setCell (p := ⟨g, k + (M.dig y).length, none⟩) hgB _⟩
            · rw [M.el_set _ _ _ _ (by rw [HLN.out]; omega), if_neg (by omega)]; exact HZ.out m (by omega)
            · rw [M.val_set _ _ _ (by rw [HLN.out]; omega), HZ.out _ (Nat.le_refl _), M.val_take_succ']
              exact M.mul_row HV.out
          case measure => simp [intOf]; omega
    · have hk' : k = (M.dig x).length := by omega
      have hend : M.trimL zs = M.dig (x * y) := by
        refine M.mul_end HLIM.out ?_
        have hv := HVAL.out
        rwa [List.take_of_length_le (by omega), M.val_dig] at hv
      have hw := within_any _ zs _ wo HOWN.out.rowAt
      have ho := HOWN.out.trimmed
      rw [hend] at hw ho
      rw [HLN.out] at hw ho
      obtain ⟨a', c', hcut⟩ := cut_slice (some ⟨g, 0, none⟩) ((M.dig x).length + (M.dig y).length) (M.dig (x * y))
      rw [hcut] at hw ho
      clear hend hcut
      have HO := Lib.hid ho
      have HK := Lib.hid hk'
      clear ho hk'
      have hs2 : w.heap.size + 1 + 1 < wo.heap.size := by have := HSZ.out; have := HBW.out.size; omega
      by_cases h200 : (M.dig (x * y)).length ≤ 200
      · rw [if_pos h200] at hw
        have HW := Lib.hid hw
        clear hw
        go_wp2_with (go_at_call 132; refine HW.out.mono ?_; rintro e w7 ⟨rfl, hb7⟩; have d2 := (hb7.cell (p := ⟨w.heap.size + 1 + 1, 0, none⟩) hs2).trans c2; have g2 := (hb7.frozen (p := ⟨w.heap.size + 1 + 1, 0, none⟩) hs2).trans f2)
        refine bodyPost_ret (v := .tuple #[.agg #[.slice a' (M.dig (x * y)).length c'], .int .i64 0]) (by simp [results, Tryz.results94, go_sem, d2]) rfl ⟨natRes_ok h200 ?_, ?_⟩
        · exact ((HO.out.below hb7).setBelow (p := ⟨w.heap.size + 1 + 1, 0, none⟩) (by simp) _).num
        · exact ((HB3.out.trans (HBW.out.mono (by omega))).trans (hb7.mono (by have := HSZ.out; omega))).setCell (p := ⟨w.heap.size + 1 + 1, 0, none⟩) (by simp; omega) _
      · rw [if_neg h200] at hw
        have HW := Lib.hid hw
        clear hw
        go_wp2_with (go_at_call 132; refine HW.out.mono ?_; rintro e w7 ⟨rfl, hb7⟩; have d2 := (hb7.cell (p := ⟨w.heap.size + 1 + 1, 0, none⟩) hs2).trans c2; have g2 := (hb7.frozen (p := ⟨w.heap.size + 1 + 1, 0, none⟩) hs2).trans f2)
        refine bodyPost_ret (v := .tuple #[.agg #[.slice none 0 0], .int .i64 3]) (by simp [results, Tryz.results94, go_sem, d2]) rfl ⟨natRes_limit h200, ?_⟩
        exact ((HB3.out.trans (HBW.out.mono (by omega))).trans (hb7.mono (by have := HSZ.out; omega))).setCell (p := ⟨w.heap.size + 1 + 1, 0, none⟩) (by simp; omega) _

/-- **nat.Mul** of two numbers. -/
theorem mul_num {u v : Value} {x y : Nat} {w : World} (hx : (M.dig x).length ≤ 200) (hy : (M.dig y).length ≤ 200) (hu : Num w u x) (hv : Num w v y) :
    Calls Tryz.prog 94 #[u, v] w fun e W' => NatRes (x * y) e W' ∧ Below w.heap.size w W' := by
  obtain ⟨a, ca, rfl, ha⟩ := hu
  obtain ⟨b, cb, rfl, hb⟩ := hv
  exact mul_any a b ca cb x y w hx hy ha hb
end Go.Proofs.YtmejneobfkbgeaaGreatDoor

namespace Go.Proofs.YtmejneobfkbgeaaGreatDoor
open Go Go.RowKit Go.Shelf
attribute [local go_sem] Oper.semAt_some mask24

theorem ownFrom_grown {β : Type} {w₀ : World} {row₀ : Option Nat} {B : Nat} (hB : w₀.heap.size ≤ B) : OwnFrom B (fun (_ : β) W => w₀.grownBy W row₀) :=
  fun _ W W' row hs hg hr => ⟨hg.os.trans hs.os, hg.tape.trans hs.tape, hg.output.trans hs.output, Nat.le_trans hs.size hg.size, fun k hk hne => by
    refine (hg.block k (Nat.lt_of_lt_of_le hk hs.size) ?_).trans (hs.block k hk hne)
    intro e
    have := (hr k e.symm).1
    omega⟩

/-- What is owned from B on, while blocks that hold no cells turn beyond. -/
theorem ownFrom_own {β : Type} {B0 B : Nat} {v : Value} (f : β → List Int) : OwnFrom B0 (fun s W => Own W B v (f s)) := fun s W W' row hs hg hr =>
  World.ownsRow.kept hs hg (by
    cases hv : v.ownBlock with
    | none => exact .inl rfl
    | some k =>
      refine .inr ?_
      intro e
      obtain ⟨_, o, ho, hc⟩ := hr k e.symm
      obtain ⟨_, h2 | ⟨g, cap, cur, rfl, hb, hh, _⟩⟩ := hs
      · rw [h2.1] at hv; simp [Value.ownBlock] at hv
      · simp [Value.ownBlock] at hv
        subst hv
        rw [hh] at ho
        cases ho
        simp [Obj.isCells] at hc)

theorem grown_setCell {w W : World} {row : Option Nat} (h : w.grownBy W row) {a : Addr} (u : Value) (ha : w.heap.size ≤ a.block ∨ row = some a.block) : w.grownBy (W.setCell a u) row := by
  refine ⟨h.os, h.tape, h.output, by rw [show (W.setCell a u).heap.size = W.heap.size by simp [World.setCell]]; exact h.size, fun k hk hne => ?_⟩
  refine (Below.heap_setCell W a u k ?_).trans (h.block k hk hne)
  rintro rfl
  rcases ha with h | h
  · omega
  · exact hne h.symm
theorem grown_alloc {w W : World} {row : Option Nat} (h : w.grownBy W row) (o : Obj) : w.grownBy (W.alloc o) row :=
  ⟨h.os, h.tape, h.output, by rw [World.size_alloc]; exact Nat.le_succ_of_le h.size, fun k hk hne => (Below.heap_alloc W o k (Nat.lt_of_lt_of_le hk h.size)).trans (h.block k hk hne)⟩
theorem grown_drew {w W : World} {row : Option Nat} (h : w.grownBy W row) : w.grownBy W.drew row := ⟨h.os, h.tape, h.output, h.size, h.block⟩

/-- What holds in shrink's loop when k elements are still to come. -/
def ShrI (w : World) (B : Nat) (a : Option Addr) (cap : Nat) (zs : List Int) (d : Int) (k : Nat) (W : World) : Prop :=
  (W.cell? ⟨w.heap.size, 0, none⟩ = some (.slice a zs.length cap) ∧ W.cell? ⟨w.heap.size + 1, 0, none⟩ = some (.int .i64 d) ∧ W.cell? ⟨w.heap.size + 1 + 1, 0, none⟩ = some (.int .i64 (M.shr d (zs.drop k)).1) ∧ W.frozen? ⟨w.heap.size + 1 + 1, 0, none⟩ = false ∧
    W.cell? ⟨w.heap.size + 1 + 1 + 1, 0, none⟩ = some (.slice a zs.length cap)) ∧ Own W B (.slice a zs.length cap) (M.shrAt d zs k) ∧ w.grownBy W (Value.slice a zs.length cap).ownBlock

theorem shrI_own {w : World} {B B0 : Nat} {a : Option Addr} {cap : Nat} {zs : List Int} {d : Int} (hB0 : w.heap.size ≤ B0) : OwnFrom B0 (ShrI w B a cap zs d) :=
  OwnFrom.and (Own.from (fun _ _ _ _ hs hg hr => ⟨cell_kept hs.1 hg hr, cell_kept hs.2.1 hg hr, cell_kept hs.2.2.1 hg hr, (frozen_kept hs.2.2.1 hg hr).trans hs.2.2.2.1, cell_kept hs.2.2.2.2 hg hr⟩) _)
    (OwnFrom.and (ownFrom_own _) (ownFrom_grown hB0))

theorem cell_other {W : World} {p a : Addr} (u : Value) (h : a.block ≠ p.block) : (W.setCell p u).cell? a = W.cell? a :=
  World.cell?_of_block (Below.heap_setCell W p u a.block h)

theorem shr_step {w W : World} {B B0 g cap : Nat} {zs : List Int} {d r x : Int} {k : Nat} (hgw : g < w.heap.size) (hc0 : W.cell? ⟨w.heap.size, 0, none⟩ = some (.slice (some ⟨g, 0, none⟩) zs.length cap))
    (hc1 : W.cell? ⟨w.heap.size + 1, 0, none⟩ = some (.int .i64 d)) (hc2 : W.cell? ⟨w.heap.size + 1 + 1, 0, none⟩ = some (.int .i64 r)) (hf2 : W.frozen? ⟨w.heap.size + 1 + 1, 0, none⟩ = false)
    (hc3 : W.cell? ⟨w.heap.size + 1 + 1 + 1, 0, none⟩ = some (.slice (some ⟨g, 0, none⟩) zs.length cap)) (HO : Own W B (.slice (some ⟨g, 0, none⟩) zs.length cap) (M.shrAt d zs (k + 1))) (HG : w.grownBy W (Value.slice (some ⟨g, 0, none⟩) zs.length cap).ownBlock)
    (HS : (M.shrAt d zs (k + 1)).set k (x / d) = M.shrAt d zs k) (HR : (M.shr d (zs.drop k)).1 = x % d) :
    KeepsFrom B0 W (((W.setCell ⟨w.heap.size + 1 + 1, 0, none⟩ (.int .i64 x)).setCell ⟨g, k, none⟩ (.int .i64 (x / d))).setCell ⟨w.heap.size + 1 + 1, 0, none⟩ (.int .i64 (x % d))).drew ∧
    ShrI w B (some ⟨g, 0, none⟩) cap zs d k (((W.setCell ⟨w.heap.size + 1 + 1, 0, none⟩ (.int .i64 x)).setCell ⟨g, k, none⟩ (.int .i64 (x / d))).setCell ⟨w.heap.size + 1 + 1, 0, none⟩ (.int .i64 (x % d))).drew := by
  have e2 : (((W.setCell ⟨w.heap.size + 1 + 1, 0, none⟩ (.int .i64 x)).setCell ⟨g, k, none⟩ (.int .i64 (x / d))).cell? ⟨w.heap.size + 1 + 1, 0, none⟩).isSome = true := by
    rw [cell_other _ (by simp; omega), World.cell?_setCell_same' _ _ _ (by rw [hc2]; rfl)]; rfl
  refine ⟨(((KeepsOthers.setCell _ _ _).trans (KeepsOthers.setCell _ _ _)).trans ((KeepsOthers.setCell _ _ _).trans (KeepsOthers.drew _))).from _, ⟨?_, ?_, ?_, ?_, ?_⟩, ?_, ?_⟩
  · exact (cell_other _ (by simp; omega)).trans ((cell_other _ (by simp; omega)).trans ((cell_other _ (by simp; omega)).trans hc0))
  · exact (cell_other _ (by simp)).trans ((cell_other _ (by simp; omega)).trans ((cell_other _ (by simp)).trans hc1))
  · rw [HR]; exact World.cell?_setCell_same' _ _ _ e2
  · show World.frozen? (World.setCell _ _ _) _ = false
    rw [World.frozen?_setCell, World.frozen?_setCell, World.frozen?_setCell]; exact hf2
  · exact (cell_other _ (by simp)).trans ((cell_other _ (by simp; omega)).trans ((cell_other _ (by simp)).trans hc3))
  · have hl := M.shrAt_len d zs (k + 1)
    have h1 := HO.other (p := ⟨w.heap.size + 1 + 1, 0, none⟩) (.int .i64 x) (by simp [Value.ownBlock]; omega)
    rw [← hl] at h1
    have h2 := (h1.set k (x / d)).other (p := ⟨w.heap.size + 1 + 1, 0, none⟩) (.int .i64 (x % d)) (by simp [Value.ownBlock]; omega)
    rw [HS, hl] at h2
    exact h2
  · have g1 := grown_setCell HG (a := ⟨w.heap.size + 1 + 1, 0, none⟩) (.int .i64 x) (.inl (by show w.heap.size ≤ w.heap.size + 1 + 1; omega))
    have g2 := grown_setCell g1 (a := ⟨g, k, none⟩) (.int .i64 (x / d)) (.inr rfl)
    exact grown_drew (grown_setCell g2 (a := ⟨w.heap.size + 1 + 1, 0, none⟩) (.int .i64 (x % d)) (.inl (by show w.heap.size ≤ w.heap.size + 1 + 1; omega)))

end Go.Proofs.YtmejneobfkbgeaaGreatDoor

namespace Go.Proofs.YtmejneobfkbgeaaGreatDoor
open Go Go.RowKit Go.Shelf
attribute [local go_sem] Oper.semAt_some mask24

set_option maxRecDepth 100000 in
set_option maxHeartbeats 2000000 in
theorem shrink_any (B : Nat) (a : Option Addr) (cap : Nat) (zs : List Int) (d : Nat) (w : World) (hd : 0 < d) (hd2 : d < 549755813888) (hlim : M.Lim zs) (hown : Own w B (.slice a zs.length cap) zs) :
    Calls Tryz.prog 49 #[.slice a zs.length cap, .int .i64 (d : Int)] w fun e W' => e = .returned (.int .i64 (M.shr d zs).1) ∧ Own W' B (.slice a zs.length cap) (M.shr d zs).2 ∧ w.grownBy W' (Value.slice a zs.length cap).ownBlock := by
  refine (callsIn_wide (n := 6)).1 ?_
  refine callsIn_of_wp_marks Tryz.func49 rfl trivial ?_ rfl
  simp only [Tryz.ntmps49, List.size_toArray, List.length_cons, List.length_nil, Nat.reduceAdd, Nat.reduceSub, Array.replicate_succ, Array.replicate_zero, List.push_toArray, List.append_toArray, List.nil_append, List.cons_append]
  gi_wp2_with (refine ⟨trivial, ?_⟩; gi_at_call 97; refine (callsIn_wide.2 (backward_any _ _ _ _)).mono ?_; rintro e w' ⟨rfl, rfl⟩)
  have c0 := cell_new w (.slice a zs.length cap) 24
  have c1 := cell_new (w.alloc (.cells #[.slice a zs.length cap] 24)) (.int .i64 (d : Int)) 3
  have c2 := cell_new ((w.alloc (.cells #[.slice a zs.length cap] 24)).alloc (.cells #[.int .i64 (d : Int)] 3)) (.int .i64 0) 3
  have f2 := frozen_new ((w.alloc (.cells #[.slice a zs.length cap] 24)).alloc (.cells #[.int .i64 (d : Int)] 3)) (.int .i64 0) 3
  have c3 := cell_new (((w.alloc (.cells #[.slice a zs.length cap] 24)).alloc (.cells #[.int .i64 (d : Int)] 3)).alloc (.cells #[.int .i64 0] 3)) (.slice a zs.length cap) 24
  simp only [World.size_alloc] at c1 c2 f2 c3
  have hrow := hown.rowAt
  have hm : zs.length ≤ 9223372036854775807 := by have := hrow.room; have := hrow.most; omega
  have hgr := grown_alloc (grown_alloc (grown_alloc (grown_alloc (World.grownBy.refl w (Value.slice a zs.length cap).ownBlock) (.cells #[.slice a zs.length cap] 24)) (.cells #[.int .i64 (d : Int)] 3)) (.cells #[.int .i64 0] 3)) (.cells #[.slice a zs.length cap] 24)
  have ho4 := (((hown.alloc (.cells #[.slice a zs.length cap] 24)).alloc (.cells #[.int .i64 (d : Int)] 3)).alloc (.cells #[.int .i64 0] 3)).alloc (.cells #[.slice a zs.length cap] 24)
  refine wpIn_back (n := 6) (by omega) (Bs := w.heap.size + 1 + 1 + 1) rfl rfl a zs.length cap hm (fun j => M.el zs j) (ShrI w B a cap zs d) (fun _ _ _ => False) (shrI_own (by simp; omega)) (fun _ _ _ _ _ hs _ _ => hs)
    ⟨⟨cell_later _ (cell_later _ (cell_later _ c0)), cell_later _ (cell_later _ c1), by rw [List.drop_length]; exact cell_later _ c2, frozen_later _ c2 f2, c3⟩, by rw [M.shrAt_all]; exact ho4, hgr⟩
    (fun k W h => h.1.2.2.2.2)
    (fun k W h hk => by
      obtain ⟨g, rfl, _, _, _, _, hc, _⟩ := h.2.1.at2 k (by rw [M.shrAt_len]; exact hk)
      rw [M.shrAt_el _ _ _ _ (Nat.lt_succ_self k) hk] at hc
      exact ⟨g, 0, rfl, by simpa using hc⟩)
    (fun k => { tmps := #[.slice a zs.length cap, .int .i64 (d : Int), .pointer (some ⟨w.heap.size, 0, none⟩), .pointer (some ⟨w.heap.size + 1, 0, none⟩), .int .i64 0, .pointer (some ⟨w.heap.size + 1 + 1, 0, none⟩), .int .i64 (k : Int), .int .i64 (M.el zs k), .slice a zs.length cap,
      .func (.func 136) #[] #[.pointer (some ⟨w.heap.size + 1 + 1 + 1, 0, none⟩)], .int .i64 (k : Int), .int .i64 (M.el zs k), undef, undef, undef, undef, undef, undef, undef, undef, undef, undef, undef, undef, undef, undef], defers := [] }) ?assign ?body ?done ?stop
  case assign =>
    intro l k W K hk hK
    gi_wp2
    exact hK
  case body =>
    clear c0 c1 c2 f2 c3 hgr ho4 hrow
    rintro l k W hl hrec ⟨⟨hc0, hc1, hc2, hf2, hc3⟩, hO, hG⟩ hk
    clear hl hrec
    obtain ⟨g, rfl, hgB, hgW, hroom, hmost, hcz, hfz⟩ := hO.at2 k (by rw [M.shrAt_len]; exact hk)
    obtain ⟨g', e', _, hgw, _, _, _, _⟩ := hown.at2 k hk
    cases e'
    have HO := Lib.hid hO
    have HG := Lib.hid hG
    have HW := Lib.hid hgW
    clear hO hG hgW hown
    have hr := M.shr_rest (d : Int) (by omega) (zs.drop (k + 1))
    have hel := hlim.get k
    have HS := Lib.hid (M.shrAt_set (d : Int) zs k hk)
    have HR := Lib.hid (M.shr_drop (d : Int) zs k hk)
    generalize (M.shr (d : Int) (zs.drop (k + 1))).1 = r at *
    have hor := or24 r (M.el zs k) hr.1 (by omega) hel.1 hel.2
    have hmx : Tryz.prog.follows .mixedOrders = true := by kernel_rfl
    have hd0 : ((d : Int) == 0) = false := by simp; omega
    have hd1 : (1 : Int) ≤ d := by omega
    gi_wp2
    gi_region_with_o (fail)
    all_goals gi_wp2
    all_goals exact shr_step (B0 := _) hgw hc0 hc1 hc2 hf2 hc3 HO.out HG.out HS.out HR.out
  case done =>
    rintro D W hD ⟨⟨_, _, hc2, hf2, _⟩, hO, hG⟩ hK
    rw [List.drop_zero] at hc2
    rw [M.shrAt_zero] at hO
    have HO := Lib.hid hO
    have HG := Lib.hid hG
    clear hO hG c0 c1 c2 f2 c3 hgr ho4 hrow
    gi_wp2
    refine ⟨by simp, .inl ⟨_, _, rfl, run_takeDeferred hK, ?_⟩⟩
    refine ⟨_, results_tmp rfl _ _ _, rfl, ?_, ?_⟩
    · exact ownFrom_own (B0 := 0) (fun (_ : Unit) => (M.shr (d : Int) zs).2) () _ _ _ HO.out (grownBy_putObj' _ D (.deferred none)) (fun r e => by cases e; exact ⟨Nat.zero_le _, _, hK, rfl⟩)
    · exact ownFrom_grown (Nat.le_refl _) () _ _ _ HG.out (grownBy_putObj' _ D (.deferred none)) (fun r e => by cases e; exact ⟨by simp at hD; omega, _, hK, rfl⟩)
  case stop =>
    rintro D c k W _ _ h _
    exact h.elim
end Go.Proofs.YtmejneobfkbgeaaGreatDoor
