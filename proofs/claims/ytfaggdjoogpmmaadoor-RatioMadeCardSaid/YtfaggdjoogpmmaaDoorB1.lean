/- Plain arithmetic of limbs: lists of integers from 0 to 2^24 - 1, lowest first, and their values. No program is named here. How many limbs sums and products have. Fractions as rational numbers. A range over slices.Backward: what a loop body must keep, and what then holds behind the loop. Slices of ints in memory; nat.trim and nat.within over them. nat.within and nat.limbAt. Slices of ints that a call has made itself. Go's bit operations that the limbs use, as arithmetic. The arithmetic of a division by limbs: adding a multiple of the divisor, the guess of three limbs by two. nat.addTimes, over a part of a slice that is owned. math/bits.Len and cmp.Compare at ints, by the shelf's contracts. math/bits.Div64 for a divisor of 48 bits. nat.guess. The guess over limbs, and what is left behind it. -/
import Derived.RangeFuncNested
import Derived.RangeFuncBound
import Derived.RangeFuncCalls
import Derived.RangeFuncLeaves
import Derived.Shelf.Abstract
import Derived.Shelf.RegionOpen
import Derived.WalkKit
import Derived.OwnWalkIn
import Derived.TacticsInMore
import Derived.LoopNIn
import Derived.LoopIn
import Derived.Test.YtfaggdjoogpmmaaDoorProg
import Derived.Lib.Hide
import Derived.Outline
import Derived.BigQuiet
import Derived.Deep.QuietTactic
import Derived.Laws.ResultCell
import Derived.Laws.Bits64b
import Derived.Shelf.Small.Bits
import Derived.Shelf.Small.Wraps
namespace Go.Proofs.YtfaggdjoogpmmaaDoor
namespace M

/-- Element k of a list, 0 behind its end. -/
def el (zs : List Int) (k : Nat) : Int := zs[k]?.getD 0
@[simp] theorem el_nil (k : Nat) : el [] k = 0 := rfl
@[simp] theorem el_zero (z : Int) (zs : List Int) : el (z :: zs) 0 = z := rfl
@[simp] theorem el_succ (z : Int) (zs : List Int) (k : Nat) : el (z :: zs) (k + 1) = el zs k := rfl
theorem el_lt {zs : List Int} {k : Nat} (h : k < zs.length) : el zs k = zs[k] := by unfold el; rw [List.getElem?_eq_getElem h]; rfl
theorem el_ge {zs : List Int} {k : Nat} (h : zs.length ≤ k) : el zs k = 0 := by unfold el; rw [List.getElem?_eq_none h]; rfl
theorem el_append_left {a b : List Int} {k : Nat} (h : k < a.length) : el (a ++ b) k = el a k := by unfold el; rw [List.getElem?_append_left h]
theorem el_append_right {a b : List Int} {k : Nat} (h : a.length ≤ k) : el (a ++ b) k = el b (k - a.length) := by unfold el; rw [List.getElem?_append_right h]
theorem el_take {zs : List Int} {k n : Nat} (h : k < n) : el (zs.take n) k = el zs k := by unfold el; rw [List.getElem?_take_of_lt h]
theorem el_drop (zs : List Int) (k n : Nat) : el (zs.drop n) k = el zs (n + k) := by unfold el; rw [List.getElem?_drop]
theorem el_set (zs : List Int) (i : Nat) (v : Int) (k : Nat) (h : i < zs.length) : el (zs.set i v) k = if i = k then v else el zs k := by
  unfold el; rw [List.getElem?_set]; split
  · rename_i e; subst e; simp
  · rfl
theorem ext_el {a b : List Int} (hl : a.length = b.length) (h : ∀ k, k < a.length → el a k = el b k) : a = b :=
  List.ext_getElem hl fun i h1 h2 => by have := h i h1; rwa [el_lt h1, el_lt h2] at this

theorem el_replicate (n k : Nat) : el (List.replicate n 0) k = 0 := by
  unfold el; rw [List.getElem?_replicate]; split <;> rfl

/-- The value of limbs. -/
def val : List Int → Int
  | [] => 0
  | z :: zs => z + 16777216 * val zs

/-- Each limb is from 0 to 2^24 - 1. -/
def Lim (zs : List Int) : Prop := ∀ z ∈ zs, 0 ≤ z ∧ z < 16777216

/-- The limbs without the zeros at their end. -/
def trimL : List Int → List Int
  | [] => []
  | z :: zs => if trimL zs = [] ∧ z = 0 then [] else z :: trimL zs

/-- The one list of limbs of a natural number. -/
def dig (n : Nat) : List Int :=
  if h : n = 0 then [] else ((n % 16777216 : Nat) : Int) :: dig (n / 16777216)
termination_by n
decreasing_by omega

theorem dig_zero : dig 0 = [] := by rw [dig]; simp
theorem dig_pos {n : Nat} (h : n ≠ 0) : dig n = ((n % 16777216 : Nat) : Int) :: dig (n / 16777216) := by
  rw [dig]; simp [h]
theorem dig_nil {n : Nat} : dig n = [] ↔ n = 0 := by
  constructor
  · intro h
    by_cases e : n = 0
    · exact e
    · rw [dig_pos e] at h; cases h
  · intro h; subst h; exact dig_zero

theorem Lim.nil : Lim [] := fun _ h => by cases h
theorem Lim.cons {z : Int} {zs : List Int} (h0 : 0 ≤ z) (h1 : z < 16777216) (h : Lim zs) : Lim (z :: zs) := by
  intro y hy
  cases hy with
  | head => exact ⟨h0, h1⟩
  | tail _ hy => exact h y hy
theorem Lim.head {z : Int} {zs : List Int} (h : Lim (z :: zs)) : 0 ≤ z ∧ z < 16777216 := h z (List.mem_cons_self ..)
theorem Lim.tail {z : Int} {zs : List Int} (h : Lim (z :: zs)) : Lim zs := fun y hy => h y (List.mem_cons_of_mem _ hy)
theorem Lim.append {a b : List Int} (ha : Lim a) (hb : Lim b) : Lim (a ++ b) := fun y hy => by
  rcases List.mem_append.1 hy with h | h
  · exact ha y h
  · exact hb y h
theorem Lim.get {zs : List Int} (h : Lim zs) (i : Nat) : 0 ≤ el zs i ∧ el zs i < 16777216 := by
  by_cases hi : i < zs.length
  · rw [el_lt hi]; exact h _ (List.getElem_mem hi)
  · rw [el_ge (by omega)]; simp
theorem Lim.take {zs : List Int} (h : Lim zs) (k : Nat) : Lim (zs.take k) := fun y hy => h y (List.mem_of_mem_take hy)
theorem Lim.drop {zs : List Int} (h : Lim zs) (k : Nat) : Lim (zs.drop k) := fun y hy => h y (List.mem_of_mem_drop hy)
theorem lim_of_get {zs : List Int} (h : ∀ i, i < zs.length → 0 ≤ el zs i ∧ el zs i < 16777216) : Lim zs := fun y hy => by
  obtain ⟨i, hi, rfl⟩ := List.mem_iff_getElem.1 hy
  have := h i hi
  rw [el_lt hi] at this
  exact this

theorem val_nonneg {zs : List Int} (h : Lim zs) : 0 ≤ val zs := by
  induction zs with
  | nil => simp [val]
  | cons z zs ih => have := ih h.tail; have := h.head; simp only [val]; omega

theorem lim_dig (n : Nat) : Lim (dig n) := by
  induction n using Nat.strongRecOn with
  | ind n ih =>
    by_cases e : n = 0
    · subst e; rw [dig_zero]; exact Lim.nil
    · rw [dig_pos e]; exact Lim.cons (by omega) (by omega) (ih _ (by omega))

theorem val_dig (n : Nat) : val (dig n) = n := by
  induction n using Nat.strongRecOn with
  | ind n ih =>
    by_cases e : n = 0
    · subst e; rw [dig_zero]; rfl
    · rw [dig_pos e, val, ih _ (by omega)]; omega

theorem trimL_eq_nil {zs : List Int} (h : Lim zs) : trimL zs = [] ↔ val zs = 0 := by
  induction zs with
  | nil => simp [trimL, val]
  | cons z zs ih =>
    have i := ih h.tail
    have := val_nonneg h.tail
    have := h.head
    simp only [trimL, val]
    constructor
    · intro e
      split at e
      · rename_i h'; have := i.1 h'.1; omega
      · cases e
    · intro e
      rw [if_pos ⟨i.2 (by omega), by omega⟩]

/-- Trimmed limbs are the limbs of the value. -/
theorem trimL_dig {zs : List Int} (h : Lim zs) : trimL zs = dig (val zs).toNat := by
  induction zs with
  | nil => simp [trimL, val, dig_zero]
  | cons z zs ih =>
    have i := ih h.tail
    have h0 := val_nonneg h.tail
    have hz := h.head
    by_cases e : val (z :: zs) = 0
    · rw [(trimL_eq_nil h).2 e, e]; simp [dig_zero]
    · have hne : (val (z :: zs)).toNat ≠ 0 := by have := val_nonneg h; omega
      rw [dig_pos hne]
      simp only [trimL, val] at *
      rw [if_neg (by rintro ⟨h1, h2⟩; rw [trimL_eq_nil h.tail] at h1; omega), i]
      congr 1
      · omega
      · congr 1; omega

theorem trimL_len (zs : List Int) : (trimL zs).length ≤ zs.length := by
  induction zs with
  | nil => simp [trimL]
  | cons z zs ih => simp only [trimL]; split <;> simp <;> omega

theorem trimL_take (zs : List Int) : zs.take (trimL zs).length = trimL zs := by
  induction zs with
  | nil => simp [trimL]
  | cons z zs ih => simp only [trimL]; split <;> simp [ih]

theorem trimL_idem (zs : List Int) : trimL (trimL zs) = trimL zs := by
  induction zs with
  | nil => simp [trimL]
  | cons z zs ih =>
    simp only [trimL]
    split
    · simp [trimL]
    · rename_i h; simp only [trimL, ih]; rw [if_neg h]

/-- Limbs whose last one is not 0 are those of their value. -/
theorem trimL_last {zs : List Int} (h : zs = [] ∨ zs.getLast? ≠ some 0) : trimL zs = zs := by
  induction zs with
  | nil => rfl
  | cons z zs ih =>
    rcases h with h | h
    · cases h
    · simp only [trimL]
      by_cases e : zs = []
      · subst e; simp at h; simp [trimL, h]
      · have hz : zs.getLast? ≠ some 0 := by
          intro hh; apply h
          cases zs with
          | nil => exact absurd rfl e
          | cons y ys => simpa [List.getLast?_cons_cons] using hh
        rw [ih (.inr hz), if_neg (by rintro ⟨h1, _⟩; exact e h1)]

/-- Behind the trimmed limbs there are zeros alone. -/
theorem trimL_zero (zs : List Int) : ∀ i : Nat, (trimL zs).length ≤ i → el zs i = 0 := by
  induction zs with
  | nil => simp
  | cons z zs ih =>
    intro i hi
    simp only [trimL] at hi
    split at hi
    · rename_i h
      have h1 : (trimL zs).length = 0 := by rw [h.1]; rfl
      cases i with
      | zero => simp [h.2]
      | succ i => rw [el_succ]; exact ih i (by omega)
    · cases i with
      | zero => simp at hi
      | succ i => rw [el_succ]; exact ih i (by simp at hi; omega)

theorem trimL_at (zs : List Int) (k : Nat) (hk : el zs k ≠ 0) (hz : ∀ i, k < i → el zs i = 0) : (trimL zs).length = k + 1 := by
  induction zs generalizing k with
  | nil => simp at hk
  | cons z zs ih =>
    simp only [trimL]
    cases k with
    | zero =>
      simp at hk
      have : trimL zs = [] := by
        have hall : ∀ i : Nat, el zs i = 0 := fun i => by have := hz (i + 1) (by omega); simpa using this
        clear ih hz hk
        induction zs with
        | nil => rfl
        | cons y ys ih2 =>
          have h0 := hall 0
          simp at h0
          simp only [trimL]
          rw [if_pos ⟨ih2 (fun i => by have := hall (i + 1); simpa using this), h0⟩]
      rw [if_neg (by rintro ⟨_, h2⟩; exact hk h2), this]; rfl
    | succ k =>
      have h2 := ih k (by simpa using hk) (fun i hi => by have := hz (i + 1) (by omega); simpa using this)
      rw [if_neg (by rintro ⟨h1, _⟩; rw [h1] at h2; simp at h2)]
      simp [h2]

theorem trimL_none (zs : List Int) (hz : ∀ i : Nat, el zs i = 0) : trimL zs = [] := by
  induction zs with
  | nil => rfl
  | cons y ys ih2 =>
    have h0 := hz 0
    simp at h0
    simp only [trimL]
    rw [if_pos ⟨ih2 (fun i => by have := hz (i + 1); simpa using this), h0⟩]

theorem val_append (a b : List Int) : val (a ++ b) = val a + 16777216 ^ a.length * val b := by
  induction a with
  | nil => simp [val]
  | cons z zs ih =>
    simp only [List.cons_append, val, ih, List.length_cons, Int.pow_succ]
    rw [Int.mul_add, Int.mul_comm (16777216 ^ zs.length) 16777216, Int.mul_assoc]; omega

theorem val_lt {zs : List Int} (h : Lim zs) : val zs < 16777216 ^ zs.length := by
  induction zs with
  | nil => simp [val]
  | cons z zs ih =>
    have := ih h.tail
    have := h.head
    simp only [val, List.length_cons, Int.pow_succ]
    omega

theorem dig_len_le {n k : Nat} : (dig n).length ≤ k ↔ n < 16777216 ^ k := by
  induction k generalizing n with
  | zero =>
    simp [dig_nil]
  | succ k ih =>
    by_cases e : n = 0
    · subst e; simp [dig_zero]; exact Nat.pow_pos (by omega)
    · rw [dig_pos e]
      simp only [List.length_cons, Nat.add_le_add_iff_right, ih, Nat.pow_succ]
      omega

theorem dig_last {n : Nat} (h : n ≠ 0) : (dig n).getLast? ≠ some 0 := by
  induction n using Nat.strongRecOn with
  | ind n ih =>
    rw [dig_pos h]
    by_cases e : n / 16777216 = 0
    · rw [e, dig_zero]; simp; omega
    · have := ih (n / 16777216) (by omega) e
      rw [dig_pos e] at this ⊢
      simpa [List.getLast?_cons_cons] using this

theorem trimL_of_dig (n : Nat) : trimL (dig n) = dig n := by
  rw [trimL_dig (lim_dig n), val_dig]; simp

theorem dig_inj {a b : Nat} (h : dig a = dig b) : a = b := by
  have := congrArg val h
  rw [val_dig, val_dig] at this; omega

theorem val_take_succ (zs : List Int) (k : Nat) (hk : k < zs.length) : val (zs.take (k + 1)) = val (zs.take k) + 16777216 ^ k * (el zs k) := by
  rw [List.take_succ_eq_append_getElem hk, val_append]
  simp only [val, List.length_take, Nat.min_eq_left (by omega : k ≤ zs.length), el_lt hk, Int.mul_zero, Int.add_zero]

theorem val_take_succ' (zs : List Int) (k : Nat) : val (zs.take (k + 1)) = val (zs.take k) + 16777216 ^ k * el zs k := by
  by_cases h : k < zs.length
  · exact val_take_succ zs k h
  · rw [List.take_of_length_le (by omega), List.take_of_length_le (by omega), el_ge (by omega)]; simp

theorem take_set_succ (zs : List Int) (k : Nat) (u : Int) (h : k < zs.length) : (zs.set k u).take (k + 1) = zs.take k ++ [u] := by
  rw [List.take_succ_eq_append_getElem (by simpa using h), List.getElem_set_self, List.take_set_of_le (Nat.le_refl _)]

theorem val_set_succ (zs : List Int) (k : Nat) (u : Int) (h : k < zs.length) : val ((zs.set k u).take (k + 1)) = val (zs.take k) + 16777216 ^ k * u := by
  rw [take_set_succ zs k u h, val_append]
  simp [val, Nat.min_eq_left (Nat.le_of_lt h)]

theorem Lim.set {zs : List Int} (h : Lim zs) (k : Nat) {u : Int} (h0 : 0 ≤ u) (h1 : u < 16777216) : Lim (zs.set k u) := fun y hy => by
  rcases List.mem_or_eq_of_mem_set hy with h' | h'
  · exact h y h'
  · subst h'; exact ⟨h0, h1⟩

theorem Lim.replicate (n : Nat) : Lim (List.replicate n 0) := fun y hy => by
  have := List.eq_of_mem_replicate hy; subst this; omega

theorem pow_split (P c : Int) : P * (c % 16777216) + P * 16777216 * (c / 16777216) = P * c := by
  rw [Int.mul_assoc, ← Int.mul_add, Int.emod_add_mul_ediv]

theorem pow_pos (k : Nat) : (0 : Int) < 16777216 ^ k := Int.pow_pos (by decide)

/-- One step of an addition: u and c' are what is written and what is carried on. -/
theorem add_step {P V c s t A B : Int} (h : V + P * c = A + B) : (V + P * ((c + (s + t)) % 16777216)) + P * 16777216 * ((c + (s + t)) / 16777216) = (A + P * s) + (B + P * t) := by
  have := pow_split P (c + (s + t))
  rw [Int.add_assoc, this, Int.mul_add, Int.mul_add]; omega

theorem val_replicate (n : Nat) : val (List.replicate n 0) = 0 := by
  induction n with
  | zero => rfl
  | succ n ih => rw [List.replicate_succ, val, ih]; rfl

theorem pow_cast (k : Nat) : ((16777216 ^ k : Nat) : Int) = 16777216 ^ k := Int.natCast_pow 16777216 k
theorem pow_mono {a b : Nat} (h : a ≤ b) : (16777216 : Int) ^ a ≤ 16777216 ^ b := by
  rw [← pow_cast, ← pow_cast]; exact Int.ofNat_le.2 (Nat.pow_le_pow_right (by omega) h)
theorem val_le_of_len {zs : List Int} (h : Lim zs) {n : Nat} (hn : zs.length ≤ n) : val zs < 16777216 ^ n :=
  Int.lt_of_lt_of_le (val_lt h) (pow_mono hn)

/-- The end of an addition. -/
theorem add_end {zs : List Int} {x y n : Nat} {c : Int} (hz : Lim zs) (hx : (dig x).length ≤ n) (hy : (dig y).length ≤ n) (hc : 0 ≤ c) (h : val zs + 16777216 ^ (n + 1) * c = x + y) : trimL zs = dig (x + y) := by
  have h1 := val_le_of_len (lim_dig x) hx
  have h2 := val_le_of_len (lim_dig y) hy
  rw [val_dig] at h1 h2
  have h0 := val_nonneg hz
  have hp := pow_pos n
  have e : c = 0 := by
    by_cases h3 : c = 0
    · exact h3
    · have : 16777216 ^ (n + 1) * 1 ≤ (16777216 : Int) ^ (n + 1) * c := Int.mul_le_mul_of_nonneg_left (by omega) (by have := pow_pos (n + 1); omega)
      rw [Int.pow_succ] at this h
      omega
  subst e
  rw [trimL_dig hz]
  congr 1
  omega

theorem val_set (zs : List Int) (k : Nat) (u : Int) (h : k < zs.length) : val (zs.set k u) = val zs + 16777216 ^ k * (u - el zs k) := by
  induction zs generalizing k with
  | nil => simp at h
  | cons z zs ih =>
    cases k with
    | zero => simp only [List.set_cons_zero, val, el_zero, Int.pow_zero]; omega
    | succ k =>
      simp only [List.set_cons_succ, val, el_succ, Int.pow_succ]
      rw [ih k (by simpa using h), Int.mul_add, Int.mul_comm (16777216 ^ k) 16777216, Int.mul_assoc]; omega

/-- One step of a product: t is what is to be written and carried on at place i + j. -/
theorem mul_step {V P Pi Pj c e a b q t : Int} (hP : P = Pi * Pj) (h : V + P * c = q + Pi * (a * t)) :
    (V + P * ((c + (e + a * b)) % 16777216 - e)) + P * 16777216 * ((c + (e + a * b)) / 16777216) = q + Pi * (a * (t + Pj * b)) := by
  have h1 := pow_split P (c + (e + a * b))
  have h2 : P * ((c + (e + a * b)) % 16777216 - e) = P * ((c + (e + a * b)) % 16777216) - P * e := Int.mul_sub ..
  have h3 : P * (c + (e + a * b)) = P * c + P * e + P * (a * b) := by rw [Int.mul_add, Int.mul_add]; omega
  have h4 : Pi * (a * (t + Pj * b)) = Pi * (a * t) + P * (a * b) := by
    rw [hP, Int.mul_add, Int.mul_add, Int.mul_assoc Pi Pj, Int.mul_left_comm Pj a b]
  omega

theorem mul_bound {a b : Int} (ha : 0 ≤ a ∧ a < 16777216) (hb : 0 ≤ b ∧ b < 16777216) : 0 ≤ a * b ∧ a * b ≤ 281474943156225 := by
  refine ⟨Int.mul_nonneg ha.1 hb.1, ?_⟩
  have := Int.mul_le_mul (a := a) (b := b) (c := 16777215) (d := 16777215) (by omega) (by omega) hb.1 (by decide)
  omega

theorem mul_row {V P q A Pk e y : Int} (h : V + P * q = A * y + Pk * (e * y)) : V + P * (q - 0) = (A + Pk * e) * y := by
  rw [Int.sub_zero, Int.add_mul, Int.mul_assoc, h]

/-- The end of a product. -/
theorem mul_end {zs : List Int} {x y : Nat} (hz : Lim zs) (h : val zs = x * y) : trimL zs = dig (x * y) := by
  rw [trimL_dig hz, h]; congr 1

/-- A division by a small number: the rest and the limbs of the quotient. -/
def shr (d : Int) : List Int → Int × List Int
  | [] => (0, [])
  | z :: zs => (((shr d zs).1 * 16777216 + z) % d, ((shr d zs).1 * 16777216 + z) / d :: (shr d zs).2)

theorem shr_len (d : Int) (zs : List Int) : (shr d zs).2.length = zs.length := by
  induction zs with
  | nil => rfl
  | cons z zs ih => simp [shr, ih]

theorem shr_rest (d : Int) (hd : 0 < d) (zs : List Int) : 0 ≤ (shr d zs).1 ∧ (shr d zs).1 < d := by
  cases zs with
  | nil => exact ⟨Int.le_refl _, hd⟩
  | cons z zs => exact ⟨Int.emod_nonneg _ (by omega), Int.emod_lt_of_pos _ hd⟩

theorem shr_val (d : Int) (zs : List Int) : val (shr d zs).2 * d + (shr d zs).1 = val zs := by
  induction zs with
  | nil => simp [shr, val]
  | cons z zs ih =>
    simp only [shr, val]
    have h := Int.mul_ediv_add_emod ((shr d zs).1 * 16777216 + z) d
    rw [Int.add_mul, Int.mul_assoc, Int.mul_comm (_ / d) d, ← ih]
    omega

theorem shr_lim (d : Int) (hd : 0 < d) {zs : List Int} (h : Lim zs) : Lim (shr d zs).2 := by
  induction zs with
  | nil => exact Lim.nil
  | cons z zs ih =>
    have hr := shr_rest d hd zs
    have hz := h.head
    refine Lim.cons ?_ ?_ (ih h.tail)
    · exact Int.ediv_nonneg (by omega) (by omega)
    · exact Int.ediv_lt_of_lt_mul hd (by have : ((shr d zs).1 + 1) * 16777216 ≤ d * 16777216 := Int.mul_le_mul_of_nonneg_right (by omega) (by decide)
                                         rw [Int.mul_comm 16777216 d]; omega)

theorem shr_nat {zs : List Int} {d : Nat} (hd : 0 < d) {n : Nat} (h : Lim zs) (hv : val zs = n) : trimL (shr d zs).2 = dig (n / d) ∧ (shr d zs).1 = ((n % d : Nat) : Int) := by
  have h1 := shr_val d zs
  have h2 := shr_rest d (by omega) zs
  have h3 := val_nonneg (shr_lim (d : Int) (by omega) h)
  obtain ⟨q, hq⟩ := Int.eq_ofNat_of_zero_le h3
  obtain ⟨r, hr⟩ := Int.eq_ofNat_of_zero_le h2.1
  rw [hq, hr, hv] at h1
  have h4 : q * d + r = n := by have : ((q * d + r : Nat) : Int) = (n : Int) := by rw [Int.natCast_add, Int.natCast_mul]; exact h1
                                omega
  have h5 : r < d := by rw [hr] at h2; omega
  have e1 : n / d = q := by rw [← h4, Nat.mul_comm q d, Nat.mul_add_div hd, Nat.div_eq_of_lt h5]; omega
  have e2 : n % d = r := by rw [← h4, Nat.mul_comm q d, Nat.mul_add_mod, Nat.mod_eq_of_lt h5]
  rw [trimL_dig (shr_lim (d : Int) (by omega) h), hq, hr, e1, e2]
  exact ⟨by simp, rfl⟩

theorem drop_el (zs : List Int) (k : Nat) (h : k < zs.length) : zs.drop k = el zs k :: zs.drop (k + 1) := by
  rw [List.drop_eq_getElem_cons h, el_lt h]

/-- The limbs while those from k on have been divided. -/
def shrAt (d : Int) (zs : List Int) (k : Nat) : List Int := zs.take k ++ (shr d (zs.drop k)).2
theorem shrAt_len (d : Int) (zs : List Int) (k : Nat) : (shrAt d zs k).length = zs.length := by
  unfold shrAt; rw [List.length_append, shr_len, List.length_take, List.length_drop]; omega
theorem shrAt_el (d : Int) (zs : List Int) (k : Nat) (j : Nat) (h : j < k) (hj : j < zs.length) : el (shrAt d zs k) j = el zs j := by
  unfold shrAt; rw [el_append_left (by rw [List.length_take]; omega), el_take h]
theorem shrAt_set (d : Int) (zs : List Int) (k : Nat) (h : k < zs.length) : (shrAt d zs (k + 1)).set k (((shr d (zs.drop (k + 1))).1 * 16777216 + el zs k) / d) = shrAt d zs k := by
  unfold shrAt
  rw [drop_el zs k h, List.take_succ_eq_append_getElem h, List.append_assoc, List.set_append_right _ _ (by rw [List.length_take]; omega)]
  have : k - (zs.take k).length = 0 := by rw [List.length_take]; omega
  rw [this]
  rfl
theorem shrAt_zero (d : Int) (zs : List Int) : shrAt d zs 0 = (shr d zs).2 := rfl
theorem shrAt_all (d : Int) (zs : List Int) : shrAt d zs zs.length = zs := by
  unfold shrAt; rw [List.take_length, List.drop_length]; simp [shr]
theorem shr_drop (d : Int) (zs : List Int) (k : Nat) (h : k < zs.length) : (shr d (zs.drop k)).1 = ((shr d (zs.drop (k + 1))).1 * 16777216 + el zs k) % d := by
  rw [drop_el zs k h]; rfl

end M
end Go.Proofs.YtfaggdjoogpmmaaDoor

namespace Go.Proofs.YtfaggdjoogpmmaaDoor.M
theorem dig_len_add {x y k : Nat} (hx : (dig x).length ≤ k) (hy : (dig y).length ≤ k) : (dig (x + y)).length ≤ k + 1 := by
  rw [dig_len_le] at *
  rw [Nat.pow_succ]; omega
theorem dig_len_mul {x y j k : Nat} (hx : (dig x).length ≤ j) (hy : (dig y).length ≤ k) : (dig (x * y)).length ≤ j + k := by
  rw [dig_len_le] at *
  rw [Nat.pow_add]
  exact Nat.mul_lt_mul_of_lt_of_le hx (Nat.le_of_lt hy) (Nat.pow_pos (by decide))
theorem dig_len_mono {x y : Nat} (h : x ≤ y) : (dig x).length ≤ (dig y).length := dig_len_le.2 (Nat.lt_of_le_of_lt h (dig_len_le.1 (Nat.le_refl _)))
end Go.Proofs.YtfaggdjoogpmmaaDoor.M

namespace Go.Proofs.YtfaggdjoogpmmaaDoor

/-- The value of a fraction. -/
def Q (n d : Nat) : Rat := (n : Rat) / (d : Rat)
theorem cast_ne {d : Nat} (h : 0 < d) : (d : Rat) ≠ 0 := by
  intro e
  have := Rat.natCast_eq_zero_iff.1 e
  omega
theorem Q_cross {x y z t : Nat} (hy : 0 < y) (ht : 0 < t) (h : Q x y = Q z t) : x * t = z * y := by
  have h1 := cast_ne hy
  have h2 := cast_ne ht
  unfold Q at h
  have : (x : Rat) * t = z * y := by grind
  exact_mod_cast this
theorem Q_of_cross {x y z t : Nat} (hy : 0 < y) (ht : 0 < t) (h : x * t = z * y) : Q x y = Q z t := by
  have h1 := cast_ne hy
  have h2 := cast_ne ht
  have : (x : Rat) * t = z * y := by exact_mod_cast h
  unfold Q
  grind
theorem Q_add {x y z t : Nat} (hy : 0 < y) (ht : 0 < t) : Q (x * t + z * y) (y * t) = Q x y + Q z t := by
  have h1 := cast_ne hy
  have h2 := cast_ne ht
  unfold Q
  grind
theorem Q_mul {x y z t : Nat} (hy : 0 < y) (ht : 0 < t) : Q (x * z) (y * t) = Q x y * Q z t := by
  have h1 := cast_ne hy
  have h2 := cast_ne ht
  unfold Q
  grind
theorem Q_sub {x y z t : Nat} (hy : 0 < y) (ht : 0 < t) (hle : z * y ≤ x * t) : Q (x * t - z * y) (y * t) + Q z t = Q x y := by
  obtain ⟨k, hk⟩ : ∃ k, x * t = k + z * y := ⟨x * t - z * y, by omega⟩
  have hc : (x : Rat) * t = k + z * y := by exact_mod_cast hk
  rw [show x * t - z * y = k by omega]
  have h1 := cast_ne hy
  have h2 := cast_ne ht
  unfold Q
  grind
theorem Q_div {x y z t : Nat} (hy : 0 < y) (ht : 0 < t) (hz : 0 < z) : Q (x * t) (y * z) * Q z t = Q x y := by
  have h1 := cast_ne hy
  have h2 := cast_ne ht
  have h3 := cast_ne hz
  unfold Q
  grind
theorem Q_red {x y : Nat} (hy : 0 < y) : Q (x / Nat.gcd x y) (y / Nat.gcd x y) = Q x y := by
  have hg : 0 < Nat.gcd x y := Nat.gcd_pos_of_pos_right x hy
  have e1 : x / Nat.gcd x y * Nat.gcd x y = x := Nat.div_mul_cancel (Nat.gcd_dvd_left x y)
  have e2 : y / Nat.gcd x y * Nat.gcd x y = y := Nat.div_mul_cancel (Nat.gcd_dvd_right x y)
  have h1 := cast_ne hy
  have h2 := cast_ne hg
  have h3 := cast_ne (Nat.div_pos (Nat.gcd_le_right x hy) hg)
  unfold Q
  generalize x / Nat.gcd x y = a at *
  generalize y / Nat.gcd x y = b at *
  generalize Nat.gcd x y = g at *
  subst e1 e2
  grind
theorem low_inj {x y z t : Nat} (h1 : Nat.gcd x y = 1) (h2 : Nat.gcd z t = 1) (hy : 0 < y) (h : x * t = z * y) : x = z ∧ y = t := by
  have d1 : y ∣ t := by
    have : y ∣ x * t := ⟨z, by rw [h, Nat.mul_comm]⟩
    exact Nat.Coprime.dvd_of_dvd_mul_left (Nat.Coprime.symm h1) this
  have d2 : t ∣ y := by
    have : t ∣ z * y := ⟨x, by rw [← h, Nat.mul_comm]⟩
    exact Nat.Coprime.dvd_of_dvd_mul_left (Nat.Coprime.symm h2) this
  have e : y = t := Nat.dvd_antisymm d1 d2
  subst e
  exact ⟨Nat.eq_of_mul_eq_mul_right hy h, rfl⟩

/-- A fraction in lowest terms, of numbers of at most L limbs. -/
def Lo (x y L : Nat) : Prop := 0 < y ∧ Nat.gcd x y = 1 ∧ (M.dig x).length ≤ L ∧ (M.dig y).length ≤ L
theorem Lo.red {x y L : Nat} (hy : 0 < y) (hx : (M.dig x).length ≤ L) (hl : (M.dig y).length ≤ L) : Lo (x / Nat.gcd x y) (y / Nat.gcd x y) L :=
  ⟨Nat.div_pos (Nat.gcd_le_right x hy) (Nat.gcd_pos_of_pos_right x hy), Nat.gcd_div_gcd_div_gcd_of_pos_right hy, Nat.le_trans (M.dig_len_mono (Nat.div_le_self _ _)) hx, Nat.le_trans (M.dig_len_mono (Nat.div_le_self _ _)) hl⟩
theorem Lo.same {x y z t L K : Nat} (h : Lo x y L) (g : Lo z t K) : (x = z ∧ y = t) ↔ Q x y = Q z t := by
  constructor
  · rintro ⟨rfl, rfl⟩; rfl
  · intro e; exact low_inj h.2.1 g.2.1 h.1 (Q_cross h.1 g.1 e)
end Go.Proofs.YtfaggdjoogpmmaaDoor

namespace Go.Proofs.YtfaggdjoogpmmaaDoor
open Go Go.RowKit Go.Shelf
attribute [local go_sem] Oper.semAt_some

set_option maxRecDepth 100000 in
set_option maxHeartbeats 2000000 in
/-- The closure of slices.Backward: J k: k elements are still to come. -/
theorem back1_in (n : Nat) (hn : 1 ≤ n) (l Bs : Nat) (s : Option Addr) (len cap : Nat) (hlen : len ≤ 9223372036854775807) (J Jx : Nat → World → Prop)
    (hbox : ∀ k W, J k W → W.cell? ⟨Bs, 0, none⟩ = some (.slice s len cap))
    (hY : ∀ k W, J (k + 1) W → k < len → ∃ b off v, s = some ⟨b, off, none⟩ ∧ W.cell? ⟨b, off + k, none⟩ = some (.int .i64 v) ∧
      YieldAt Fence.wide (n - 1) Tryd.prog l #[.int .i64 (k : Int), .int .i64 v] W fun e W' => (e = .returned (.bool true) ∧ J k W') ∨ (e = .returned (.bool false) ∧ Jx k W'))
    (W : World) (h0 : J len W) :
    CallsIn Fence.wide n Tryd.prog 110 #[.func (.yield l) #[] #[], .pointer (some ⟨Bs, 0, none⟩)] W fun e W' => (∃ v, e = .returned v) ∧ (J 0 W' ∨ ∃ k, k < len ∧ Jx k W') := by
  refine callsIn_of_wp Tryd.func110 rfl trivial ?_ rfl
  simp only [Tryd.ntmps110, List.size_toArray, List.length_cons, List.length_nil, Nat.reduceAdd, Nat.reduceSub, Array.replicate_succ, Array.replicate_zero, List.push_toArray, List.append_toArray, List.nil_append, List.cons_append]
  have hB0 := hbox _ _ h0
  gi_wp2
  gi_loopw [3] (fun i wr => ∃ k : Nat, k ≤ len ∧ i = .int .i64 ((k : Int) - 1) ∧ J k wr) (fun i _ => (intOf i + 1).toNat)
  case atStart => exact ⟨len, Nat.le_refl _, by first | rfl | go_num, h0⟩
  case round =>
    obtain ⟨k, hk, rfl, hJ⟩ := hrel
    cases k with
    | zero =>
      gi_wp2
      go_end0
      exact ⟨⟨_, rfl⟩, .inl hJ⟩
    | succ k =>
      obtain ⟨b, off, v, rfl, hc, fn, tmps, assign, body, hy, hR⟩ := hY k wr hJ (by omega)
      have hbx := hbox _ _ hJ
      have e1 : ((k + 1 : Nat) : Int) - 1 = (k : Int) := by omega
      rw [e1]
      have hk0 : k < len := by omega
      gi_wp2
      refine hR.mono ?_
      rintro e W3 (⟨rfl, hJ3⟩ | ⟨rfl, hJx3⟩)
      · have hbx3 := hbox _ _ hJ3
        gi_wp2
        go_roundw
        case rel => exact ⟨k, by omega, by go_num, hJ3⟩
        case measure => simp [intOf]
      · gi_wp2
        refine bodyPost_ret (results_none rfl _ _ _) rfl ?_
        exact ⟨⟨_, rfl⟩, .inr ⟨k, hk0, hJx3⟩⟩

/-- How the body of a round may be left: k elements are still to come. -/
def backPost (B : Nat) (I : Nat → World → Prop) (Ix : Code → Nat → World → Prop) (k : Nat) (W : World) : Exit → Act → World → Prop
  | .normal, _, W' => KeepsFrom B W W' ∧ I k W'
  | .ret, _, W' => KeepsFrom B W W' ∧ Ix .ret k W'
  | .exit id, _, W' => KeepsFrom B W W' ∧ Ix (.exit id) k W'
  | .goto t, _, W' => KeepsFrom B W W' ∧ Ix (.goto t) k W'
  | .panic _, _, _ => False
  | .outgrown, _, _ => False

/-- **'for i, x := range slices.Backward(s) { body }'.** I k: k elements are still to come; element k is then vs k. -/
theorem wpIn_back {g : Operand} {ps : Array Tmp} {assign body : Code} {Q : Exit → Act → World → Prop} {a : Act} {w : World} {n : Nat} (h3 : 3 ≤ n) {Bs : Nat}
    (hg : a.eval g = .func (.func 110) #[] #[.pointer (some ⟨Bs, 0, none⟩)]) (hps : ps.size = 2) (s : Option Addr) (len cap : Nat) (hlen : len ≤ 9223372036854775807) (vs : Nat → Int)
    (I : Nat → World → Prop) (Ix : Code → Nat → World → Prop) (hI : OwnFrom w.heap.size I) (hIx : ∀ c, OwnFrom w.heap.size (Ix c)) (h0 : I len w)
    (hbox : ∀ k W, I k W → W.cell? ⟨Bs, 0, none⟩ = some (.slice s len cap))
    (hread : ∀ k W, I (k + 1) W → k < len → ∃ b off, s = some ⟨b, off, none⟩ ∧ W.cell? ⟨b, off + k, none⟩ = some (.int .i64 (vs k)))
    (a₁ : Nat → Act)
    (hassign : ∀ (l k : Nat) (W : World) (K : Act → World → Prop), k < len → K (a₁ k) W →
      assign.wpIn (Fence.wide.inRound l) (n - 1 - 1) Tryd.prog (Exit.then K (fun _ _ _ => False)) { tmps := (ps.zip #[.int .i64 (k : Int), .int .i64 (vs k)]).foldl (fun t (p, v) => t.setIfInBounds p v) a.tmps, defers := [] } W)
    (hbody : ∀ (l k : Nat) (W : World), w.heap.size ≤ l → (∃ r, W.heap[l]? = some (.loop r)) → I (k + 1) W → k < len → body.wpIn (Fence.wide.inRound l) (n - 1 - 1) Tryd.prog (backPost w.heap.size I Ix k W) (a₁ k) W)
    (hdone : ∀ (D : Nat) (W : World), w.heap.size ≤ D → I 0 W → W.heap[D]? = some (.deferred (some [])) → Q .normal { a with defers := { target := .collected D, args := #[] } :: a.defers } W)
    (hstop : ∀ (D : Nat) (c : Code) (k : Nat) (W : World), w.heap.size ≤ D → k < len → Ix c k W → W.heap[D]? = some (.deferred (some [])) → c.wpIn Fence.wide n Tryd.prog Q { a with defers := { target := .collected D, args := #[] } :: a.defers } W) :
    (Code.rangeFunc g ps assign body).wpIn Fence.wide n Tryd.prog Q a w := by
  refine wpIn_rangeFunc ?_
  intro fn hfn
  rw [show Fence.wide.round = none from rfl]
  obtain ⟨rec, hrec⟩ : ∃ rec : LoopState → Option Code → Loop, rec = fun st pe => { state := st, pending := pe, fn, tmps := a.tmps, params := ps, assign, body, defers := w.heap.size } := ⟨_, rfl⟩
  obtain ⟨W1, hW1⟩ : ∃ W1, (w.alloc (.deferred (some []))).alloc (.loop (rec .ready none)) = W1 := ⟨_, rfl⟩
  have hL1 : W1.heap[w.heap.size + 1]? = some (.loop (rec .ready none)) := by
    rw [← hW1]; have := World.alloc_heap_new (w.alloc (.deferred (some []))) (.loop (rec .ready none)); rwa [World.size_alloc] at this
  have hK1 : W1.heap[w.heap.size]? = some (.deferred (some [])) := by
    rw [← hW1]; exact (Below.heap_alloc _ _ _ (by simp)).trans (World.alloc_heap_new w _)
  have hI1 : I len W1 := by rw [← hW1]; exact hI.alloc _ (hI.alloc _ h0)
  refine ⟨w.heap.size + 1, [{ target := .collected w.heap.size, args := #[] }], W1, { target := .fn (.func 110) #[.pointer (some ⟨Bs, 0, none⟩)], args := #[.func (.yield (w.heap.size + 1)) #[] #[]] }, W1, 110,
    #[.func (.yield (w.heap.size + 1)) #[] #[]] ++ #[.pointer (some ⟨Bs, 0, none⟩)], W1, ?_, ?_, ?_, ?_, fun _ => (by omega), ?_⟩
  · rw [← hW1, hrec]; exact run_enterLoop_outer _ _ _ _ _
  · simp only [resolve, hg]
    simp [go_sem]
  · intro f' hf'; trivial
  · simp [invoke, go_sem]
  · refine (back1_in (n - 1) (by omega) (w.heap.size + 1) Bs s len cap hlen
      (fun k W => I k W ∧ W.heap[w.heap.size + 1]? = some (.loop (rec .ready none)) ∧ W.heap[w.heap.size]? = some (.deferred (some [])))
      (fun k W => ∃ c, Ix c k W ∧ W.heap[w.heap.size + 1]? = some (.loop (rec .done (some c))) ∧ W.heap[w.heap.size]? = some (.deferred (some [])))
      (fun k W h => hbox k W h.1) ?_ W1 ⟨hI1, hL1, hK1⟩).mono ?_
    · rintro k W ⟨hi, hl, hk⟩ hlt
      obtain ⟨b, off, hs, hc⟩ := hread k W hi hlt
      refine ⟨b, off, vs k, hs, hc, ?_⟩
      have hy := run_yield (P := Tryd.prog) (args := #[.int .i64 (k : Int), .int .i64 (vs k)]) hl (by rw [hrec]; exact hps.symm)
      rw [hrec] at hy
      refine ⟨fn, _, assign, body, hy, roundIn_of_wpIn hfn (hassign _ k W _ hlt ?_)⟩
      clear hy
      have hlt2 : w.heap.size + 1 < W.heap.size := (Array.getElem?_eq_some_iff.1 hl).1
      refine ⟨_, run_beginRound hl (by rw [hrec]), ?_⟩
      have hl2 : (W.putObj (w.heap.size + 1) (.loop { rec .ready none with state := .busy })).heap[w.heap.size + 1]? = some (.loop { rec .ready none with state := .busy }) := World.putObj_heap_same hlt2
      have hk2 : (W.putObj (w.heap.size + 1) (.loop { rec .ready none with state := .busy })).heap[w.heap.size]? = some (.deferred (some [])) := (World.putObj_heap_other (by omega)).trans hk
      refine wpIn_mono (hbody _ k _ (by omega) ⟨_, hl2⟩ (hI.putObj _ hi (by omega) hl rfl) hlt) ?_
      have fin : ∀ (jump : Option Code) (W3 : World), KeepsFrom w.heap.size (W.putObj (w.heap.size + 1) (.loop { rec .ready none with state := .busy })) W3 →
          (Instr.endRound (w.heap.size + 1) jump).run Tryd.prog W3 = .ok (.bool jump.isNone) (W3.putObj (w.heap.size + 1) (.loop (rec (if jump.isNone then .ready else .done) jump))) ∧
          W3.heap[w.heap.size + 1]? = some (.loop { rec .ready none with state := .busy }) ∧
          (W3.putObj (w.heap.size + 1) (.loop (rec (if jump.isNone then .ready else .done) jump))).heap[w.heap.size + 1]? = some (.loop (rec (if jump.isNone then .ready else .done) jump)) ∧
          (W3.putObj (w.heap.size + 1) (.loop (rec (if jump.isNone then .ready else .done) jump))).heap[w.heap.size]? = some (.deferred (some [])) := fun jump W3 hk3 => by
        have hl3 := hk3.same _ _ (by omega) hl2 rfl
        have := run_endRound (P := Tryd.prog) jump hl3
        rw [hrec] at this ⊢
        exact ⟨this, by rw [hrec] at hl3; exact hl3, World.putObj_heap_same (Array.getElem?_eq_some_iff.1 hl3).1, (World.putObj_heap_other (by omega)).trans (hk3.same _ _ (Nat.le_refl _) hk2 rfl)⟩
      rintro e a3 W3 hp
      cases e with
      | normal =>
        obtain ⟨hk3, hi3⟩ := hp
        obtain ⟨hr, hl3, hl4, hk4⟩ := fin none W3 hk3
        exact ⟨_, _, hr, .inl ⟨rfl, hI.putObj _ hi3 (by omega) hl3 rfl, hl4, hk4⟩⟩
      | ret =>
        obtain ⟨hk3, hi3⟩ := hp
        obtain ⟨hr, hl3, hl4, hk4⟩ := fin (some .ret) W3 hk3
        exact ⟨_, _, hr, .inr ⟨rfl, .ret, (hIx _).putObj _ hi3 (by omega) hl3 rfl, hl4, hk4⟩⟩
      | exit id =>
        obtain ⟨hk3, hi3⟩ := hp
        obtain ⟨hr, hl3, hl4, hk4⟩ := fin (some (.exit id)) W3 hk3
        exact ⟨_, _, hr, .inr ⟨rfl, .exit id, (hIx _).putObj _ hi3 (by omega) hl3 rfl, hl4, hk4⟩⟩
      | goto t =>
        obtain ⟨hk3, hi3⟩ := hp
        obtain ⟨hr, hl3, hl4, hk4⟩ := fin (some (.goto t)) W3 hk3
        exact ⟨_, _, hr, .inr ⟨rfl, .goto t, (hIx _).putObj _ hi3 (by omega) hl3 rfl, hl4, hk4⟩⟩
      | panic ch => exact hp.elim
      | outgrown => exact hp.elim
    · rintro e W2 ⟨⟨v, rfl⟩, (⟨hi, hl, hk⟩ | ⟨k, hlt, c, hi, hl, hk⟩)⟩
      · exact ⟨none, _, by have := run_endLoop (P := Tryd.prog) hl (by rw [hrec]; simp); rw [hrec] at this; exact this, hdone _ _ (Nat.le_refl _) (hI.putObj _ hi (by omega) hl rfl) ((World.putObj_heap_other (by omega)).trans hk)⟩
      · exact ⟨some c, _, by have := run_endLoop (P := Tryd.prog) hl (by rw [hrec]; simp); rw [hrec] at this; exact this, hstop _ c k _ (Nat.le_refl _) hlt ((hIx c).putObj _ hi (by omega) hl rfl) ((World.putObj_heap_other (by omega)).trans hk)⟩

/-- **slices.Backward(s)**: the slice value is boxed; the function value captures the box. -/
theorem backward_any (s : Option Addr) (len cap : Nat) (w : World) :
    Calls Tryd.prog 85 #[.slice s len cap] w fun e w' => e = .returned (.func (.func 110) #[] #[.pointer (some ⟨w.heap.size, 0, none⟩)]) ∧ w' = w.alloc (.cells #[.slice s len cap] 22) := by
  go_enter Tryd.func85, Tryd.ntmps85
  go_wp2
  go_ret
  exact ⟨rfl, rfl⟩
end Go.Proofs.YtfaggdjoogpmmaaDoor

namespace Go.Proofs.YtfaggdjoogpmmaaDoor
open Go Go.RowKit Go.Shelf
attribute [local go_sem] Oper.semAt_some

theorem cell_new (w : World) (v : Value) (t : TypeId) : (w.alloc (.cells #[v] t)).cell? ⟨w.heap.size, 0, none⟩ = some v := by
  simp
theorem frozen_new (w : World) (v : Value) (t : TypeId) : (w.alloc (.cells #[v] t)).frozen? ⟨w.heap.size, 0, none⟩ = false := by
  simp
theorem cell_later {w : World} {a : Addr} {v : Value} (o : Obj) (h : w.cell? a = some v) : (w.alloc o).cell? a = some v :=
  cell_kept h (World.grownBy_alloc w o none) (fun r e => by cases e)
theorem frozen_later {w : World} {a : Addr} {v : Value} (o : Obj) (h : w.cell? a = some v) (hf : w.frozen? a = false) : (w.alloc o).frozen? a = false :=
  (frozen_kept h (World.grownBy_alloc w o none) (fun r e => by cases e)).trans hf
theorem lt_of_cell {w : World} {a : Addr} {v : Value} (h : w.cell? a = some v) : a.block < w.heap.size := by
  obtain ⟨o, ho, _⟩ := cells_of_cell h
  exact (Array.getElem?_eq_some_iff.1 ho).1

/-- The slice at a, of capacity cap, holds the ints zs. -/
structure Row (w : World) (a : Option Addr) (zs : List Int) (cap : Nat) : Prop where
  room : zs.length ≤ cap
  most : cap ≤ 9223372036854775807
  el : ∀ j, j < zs.length → ∃ b off, a = some ⟨b, off, none⟩ ∧ w.cell? ⟨b, off + j, none⟩ = some (.int .i64 (M.el zs j))

theorem Row.below {w w' : World} {a : Option Addr} {zs : List Int} {cap : Nat} (h : Row w a zs cap) (hb : Below w.heap.size w w') : Row w' a zs cap :=
  ⟨h.room, h.most, fun j hj => by
    obtain ⟨b, off, e, hc⟩ := h.el j hj
    exact ⟨b, off, e, (hb.cell (p := ⟨b, off + j, none⟩) (lt_of_cell hc)).trans hc⟩⟩

/-- The cell of element j, at the address that is known. -/
theorem Row.cell {w : World} {b off : Nat} {zs : List Int} {cap : Nat} (h : Row w (some ⟨b, off, none⟩) zs cap) (j : Nat) (hj : j < zs.length) : w.cell? ⟨b, off + j, none⟩ = some (.int .i64 (M.el zs j)) := by
  obtain ⟨b', off', e, hc⟩ := h.el j hj
  cases e
  exact hc

/-- The slice that trim hands back. -/
def cut (a : Option Addr) (cap : Nat) (ts : List Int) : Value := if ts = [] then .slice none 0 0 else .slice a ts.length cap

set_option maxRecDepth 100000 in
set_option maxHeartbeats 2000000 in
/-- **nat.trim**: the slice without the zeros at its end. -/
theorem trim_any (a : Option Addr) (zs : List Int) (cap : Nat) (w : World) (hR : Row w a zs cap) :
    Calls Tryd.prog 78 #[.slice a zs.length cap] w fun e W' => e = .returned (cut a cap (M.trimL zs)) ∧ Below w.heap.size w W' := by
  refine (callsIn_wide (n := 6)).1 ?_
  refine callsIn_of_wp_marks Tryd.func78 rfl trivial ?_ rfl
  simp only [Tryd.ntmps78, List.size_toArray, List.length_cons, List.length_nil, Nat.reduceAdd, Nat.reduceSub, Array.replicate_succ, Array.replicate_zero, List.push_toArray, List.append_toArray, List.nil_append, List.cons_append]
  gi_wp2_with (refine ⟨trivial, ?_⟩; gi_at_call 85; refine (callsIn_wide.2 (backward_any _ _ _ _)).mono ?_; rintro e w' ⟨rfl, rfl⟩)
  have c0 := cell_new w (.slice a zs.length cap) 22
  have c1 := cell_new (w.alloc (.cells #[.slice a zs.length cap] 22)) (.slice none 0 0) 22
  have f1 := frozen_new (w.alloc (.cells #[.slice a zs.length cap] 22)) (.slice none 0 0) 22
  have c2 := cell_new ((w.alloc (.cells #[.slice a zs.length cap] 22)).alloc (.cells #[.slice none 0 0] 22)) (.slice a zs.length cap) 22
  simp only [World.size_alloc] at c1 f1 c2
  have hB0 : Below w.heap.size w (((w.alloc (.cells #[.slice a zs.length cap] 22)).alloc (.cells #[.slice none 0 0] 22)).alloc (.cells #[.slice a zs.length cap] 22)) := (((Below.refl _ w).alloc (Nat.le_refl _) _).alloc (by simp) _).alloc (by simp; omega) _
  refine wpIn_back (n := 6) (by omega) (Bs := w.heap.size + 1 + 1) rfl rfl a zs.length cap (by have := hR.room; have := hR.most; omega) (fun j => M.el zs j)
    (fun k W => ((∀ j : Nat, k ≤ j → M.el zs j = 0) ∧ W.cell? ⟨w.heap.size, 0, none⟩ = some (.slice a zs.length cap) ∧ W.cell? ⟨w.heap.size + 1, 0, none⟩ = some (.slice none 0 0) ∧ W.frozen? ⟨w.heap.size + 1, 0, none⟩ = false ∧ W.cell? ⟨w.heap.size + 1 + 1, 0, none⟩ = some (.slice a zs.length cap)) ∧ Below w.heap.size w W)
    (fun c k W => (c = .ret ∧ M.el zs k ≠ 0 ∧ (∀ j : Nat, k < j → M.el zs j = 0) ∧ W.cell? ⟨w.heap.size + 1, 0, none⟩ = some (.slice a (k + 1) cap)) ∧ Below w.heap.size w W)
    (OwnFrom.and (Own.from (fun s A B row hs hg hr => ⟨hs.1, cell_kept hs.2.1 hg hr, cell_kept hs.2.2.1 hg hr, (frozen_kept hs.2.2.1 hg hr).trans hs.2.2.2.1, cell_kept hs.2.2.2.2 hg hr⟩) _) (ownFrom_below (Nat.le_refl _) (by simp; omega)))
    (fun c => OwnFrom.and (Own.from (fun s A B row hs hg hr => ⟨hs.1, hs.2.1, hs.2.2.1, cell_kept hs.2.2.2 hg hr⟩) _) (ownFrom_below (Nat.le_refl _) (by simp; omega)))
    ⟨⟨fun j hj => by exact M.el_ge hj, cell_later _ (cell_later _ c0), cell_later _ c1, frozen_later _ c1 f1, c2⟩, hB0⟩
    (fun k W h => h.1.2.2.2.2)
    (fun k W h hk => by
      obtain ⟨b, off, e, hc⟩ := hR.el k hk
      exact ⟨b, off, e, (h.2.cell (p := ⟨b, off + k, none⟩) (lt_of_cell hc)).trans hc⟩)
    (fun k => { tmps := #[.slice a zs.length cap, .pointer (some ⟨w.heap.size, 0, none⟩), .pointer (some ⟨w.heap.size + 1, 0, none⟩), .int .i64 (k : Int), .int .i64 (M.el zs k), .slice a zs.length cap, .func (.func 110) #[] #[.pointer (some ⟨w.heap.size + 1 + 1, 0, none⟩)], .int .i64 (k : Int), .int .i64 (M.el zs k), undef, undef, undef, undef, undef, undef], defers := [] }) ?assign ?body ?done ?stop
  case assign =>
    intro l k W K hk hK
    gi_wp2
    exact hK
  case body =>
    rintro l k W hl hrec ⟨⟨hz, hc0, hc1, hf1, hc2⟩, hB⟩ hk
    have hroom := hR.room
    have hmost := hR.most
    have hz' : ∀ j : Nat, k < j → M.el zs j = 0 := fun j hj => hz j hj
    have HZ := Lib.hid hz
    have HZ' := Lib.hid hz'
    clear hz hz'
    by_cases hne : M.el zs k = 0
    · have hb : ((M.el zs k) != 0) = false := by simp [hne]
      have HN := Lib.hid hne
      clear hne
      gi_wp2
      refine ⟨(KeepsOthers.refl _).from _, ⟨fun j hj => ?_, hc0, hc1, hf1, hc2⟩, hB⟩
      by_cases e : j = k
      · rw [e]; exact HN.out
      · exact HZ'.out j (by omega)
    · have hb : ((M.el zs k) != 0) = true := by simp [hne]
      have HN := Lib.hid hne
      clear hne
      gi_wp2
      exact ⟨(KeepsOthers.setCell _ _ _).from _, ⟨rfl, HN.out, HZ'.out, World.cell?_setCell_same' _ _ _ (by rw [hc1]; rfl)⟩, hB.setCell (p := ⟨w.heap.size + 1, 0, none⟩) (by simp) _⟩
  case done =>
    rintro D W hD ⟨⟨hz, _, hc1, hf1, _⟩, hB⟩ hK
    have HZ := Lib.hid (M.trimL_none zs (fun j => hz j (Nat.zero_le _)))
    clear hz
    gi_wp2
    have hK' := (KeepsOthers.setCell W ⟨w.heap.size + 1, 0, none⟩ (.slice none 0 0)).same D _ hK rfl
    refine ⟨by simp, .inl ⟨_, _, rfl, run_takeDeferred hK', ?_⟩⟩
    have hc5 := cell_kept (World.cell?_setCell_same' W ⟨w.heap.size + 1, 0, none⟩ (.slice none 0 0) (by rw [hc1]; rfl)) (grownBy_putObj' _ D (.deferred none)) (fun r e => by cases e; exact ⟨_, hK', rfl⟩)
    refine ⟨.slice none 0 0, ?_, by rw [HZ.out]; rfl, (hB.setCell (p := ⟨w.heap.size + 1, 0, none⟩) (by simp) _).trans (belowK_b (w := w) (Nat.le_refl _) _ D _ _ (by simp at hD; omega) hK' rfl rfl)⟩
    simp [results, Tryd.f78, go_sem, hc5]
  case stop =>
    rintro D c k W hD hk ⟨⟨rfl, hne, hz, hc1⟩, hB⟩ hK
    have HZ := Lib.hid (M.trimL_at zs k hne hz)
    clear hz hne
    gi_wp2
    refine ⟨by simp, .inl ⟨_, _, rfl, run_takeDeferred hK, ?_⟩⟩
    have hc5 := cell_kept hc1 (grownBy_putObj' _ D (.deferred none)) (fun r e => by cases e; exact ⟨_, hK, rfl⟩)
    refine ⟨.slice a (k + 1) cap, ?_, ?_, hB.trans (belowK_b (w := w) (Nat.le_refl _) W D _ _ (by simp at hD; omega) hK rfl rfl)⟩
    · simp [results, Tryd.f78, go_sem, hc5]
    · have hh := HZ.out
      unfold cut
      rw [if_neg (by intro e; rw [e] at hh; simp at hh), hh]
end Go.Proofs.YtfaggdjoogpmmaaDoor

namespace Go.Proofs.YtfaggdjoogpmmaaDoor
open Go Go.RowKit Go.Shelf

set_option maxHeartbeats 400000 in
/-- **nat.limbAt**: limb i, 0 behind the end. -/
theorem limbAt_any (a : Option Addr) (zs : List Int) (cap : Nat) (k : Nat) (w : World) (hR : Row w a zs cap) :
    Calls Tryd.prog 70 #[.slice a zs.length cap, .int .i64 (k : Int)] w fun e W' => e = .returned (.int .i64 (M.el zs k)) ∧ W' = w := by
  have hroom := hR.room
  have hmost := hR.most
  by_cases h : k < zs.length
  · obtain ⟨b, off, rfl, hc⟩ := hR.el k h
    go_enter Tryd.func70, Tryd.ntmps70
    go_wp2
    go_ret
    exact ⟨rfl, rfl⟩
  · have hz := Lib.hid (M.el_ge (zs := zs) (k := k) (by omega))
    go_enter Tryd.func70, Tryd.ntmps70
    go_wp2
    go_ret
    exact ⟨by rw [hz.out]; rfl, rfl⟩

theorem Row.alloc {w : World} {a : Option Addr} {zs : List Int} {cap : Nat} (h : Row w a zs cap) (o : Obj) : Row (w.alloc o) a zs cap :=
  h.below ((Below.refl _ w).alloc (Nat.le_refl _) _)

/-- What lies behind a call that only makes memory. -/
theorem bcell {W w1 : World} (hb : Below W.heap.size W w1) : (∀ b o, b < W.heap.size → w1.cell? ⟨b, o, none⟩ = W.cell? ⟨b, o, none⟩) ∧ (∀ b o, b < W.heap.size → w1.frozen? ⟨b, o, none⟩ = W.frozen? ⟨b, o, none⟩) :=
  ⟨fun b o h => hb.cell (p := ⟨b, o, none⟩) h, fun b o h => hb.frozen (p := ⟨b, o, none⟩) h⟩

theorem cut_slice (a : Option Addr) (cap : Nat) (ts : List Int) : ∃ a' c', cut a cap ts = .slice a' ts.length c' := by
  unfold cut
  split
  · rename_i h; exact ⟨none, 0, by rw [h]; rfl⟩
  · exact ⟨a, cap, rfl⟩

set_option maxHeartbeats 400000 in
/-- **nat.within**: the trimmed slice; ErrLimit, if it has too many elements. -/
theorem within_any (a : Option Addr) (zs : List Int) (cap : Nat) (w : World) (hR : Row w a zs cap) :
    Calls Tryd.prog 71 #[.slice a zs.length cap] w fun e W' => e = .returned (if (M.trimL zs).length ≤ 200 then .tuple #[.agg #[cut a cap (M.trimL zs)], .int .i64 0] else .tuple #[.agg #[.slice none 0 0], .int .i64 3]) ∧ Below w.heap.size w W' := by
  obtain ⟨a', c', hc⟩ := cut_slice a cap (M.trimL zs)
  have hl := M.trimL_len zs
  have hroom := hR.room
  have hmost := hR.most
  have ht := trim_any a zs cap (w.alloc (.cells #[.slice none 0 0] 24)) (hR.alloc _)
  rw [hc] at ht ⊢
  clear hc
  generalize (M.trimL zs).length = n at *
  have Ht := Lib.hid ht
  clear ht
  by_cases h : n ≤ 200
  · have HE := Lib.hid (show (if n ≤ 200 then Value.tuple #[.agg #[.slice a' n c'], .int .i64 0] else .tuple #[.agg #[.slice none 0 0], .int .i64 3]) = .tuple #[.agg #[.slice a' n c'], .int .i64 0] from if_pos h)
    go_enter Tryd.func71, Tryd.ntmps71
    go_wp2_with (go_at_call 78; refine Ht.out.mono ?_; rintro e w' ⟨rfl, hb⟩; obtain ⟨hcc, hff⟩ := bcell hb)
    exact bodyPost_ret (v := .tuple #[.agg #[.slice a' n c'], .int .i64 0]) (by simp [results, Tryd.results71, go_sem, hcc]) rfl ⟨rfl, (((Below.refl _ w).alloc (Nat.le_refl _) _).trans (hb.mono (by simp))).setCell (p := ⟨w.heap.size, 0, none⟩) (Nat.le_refl _) _⟩
  · have HE := Lib.hid (show (if n ≤ 200 then Value.tuple #[.agg #[.slice a' n c'], .int .i64 0] else .tuple #[.agg #[.slice none 0 0], .int .i64 3]) = .tuple #[.agg #[.slice none 0 0], .int .i64 3] from if_neg h)
    go_enter Tryd.func71, Tryd.ntmps71
    go_wp2_with (go_at_call 78; refine Ht.out.mono ?_; rintro e w' ⟨rfl, hb⟩; obtain ⟨hcc, hff⟩ := bcell hb)
    exact bodyPost_ret (v := .tuple #[.agg #[.slice none 0 0], .int .i64 3]) (by simp [results, Tryd.results71, go_sem, hcc]) rfl ⟨rfl, (((Below.refl _ w).alloc (Nat.le_refl _) _).trans (hb.mono (by simp))).setCell (p := ⟨w.heap.size, 0, none⟩) (Nat.le_refl _) _⟩
end Go.Proofs.YtfaggdjoogpmmaaDoor

namespace Go.Proofs.YtfaggdjoogpmmaaDoor
open Go Go.RowKit Go.Shelf

/-- The slice v, made from block B on, holds the ints zs. -/
def Own (W : World) (B : Nat) (v : Value) (zs : List Int) : Prop := W.ownsRow B 3 1 v zs.length (zs.map (Value.int .i64))

theorem Own.nil (W : World) (B : Nat) : Own W B (.slice none 0 0) [] := World.ownsRow_nil _ _ _ _

theorem grown_of_below {W W' : World} (h : Below W.heap.size W W') : W.grownBy W' none := ⟨h.os, h.tape, h.output, h.size, fun k hk _ => h.block k hk⟩

theorem Own.below {W W' : World} {B : Nat} {v : Value} {zs : List Int} (h : Own W B v zs) (hb : Below W.heap.size W W') : Own W' B v zs :=
  World.ownsRow.kept h (grown_of_below hb) (by cases v.ownBlock with | none => exact .inl rfl | some k => exact .inr (by intro e; cases e))
theorem Own.alloc {W : World} {B : Nat} {v : Value} {zs : List Int} (h : Own W B v zs) (o : Obj) : Own (W.alloc o) B v zs :=
  h.below ((Below.refl _ W).alloc (Nat.le_refl _) _)

theorem Own.mono {W : World} {B B' : Nat} {v : Value} {zs : List Int} (h : Own W B v zs) (hB : B' ≤ B) : Own W B' v zs := by
  obtain ⟨h1, h2 | ⟨g, cap, cur, hv, hg, r⟩⟩ := h
  · exact ⟨h1, .inl h2⟩
  · exact ⟨h1, .inr ⟨g, cap, cur, hv, Nat.le_trans hB hg, r⟩⟩

/-- What is known of the slice value: its address, its capacity, the cells. -/
theorem Own.parts {W : World} {B : Nat} {v : Value} {zs : List Int} (h : Own W B v zs) :
    (v = .slice none 0 0 ∧ zs = []) ∨ ∃ g cap, v = .slice (some ⟨g, 0, none⟩) zs.length cap ∧ B ≤ g ∧ g < W.heap.size ∧ zs.length ≤ cap ∧ cap ≤ 9223372036854775807 ∧
      ∀ j, j < zs.length → W.cell? ⟨g, j, none⟩ = some (.int .i64 (M.el zs j)) ∧ W.frozen? ⟨g, j, none⟩ = false := by
  have h' := h
  obtain ⟨h1, h2 | ⟨g, cap, cur, hv, hg, hh, r1, r2, r3⟩⟩ := h
  · exact .inl ⟨h2.1, List.length_eq_zero_iff.1 h2.2⟩
  · refine .inr ⟨g, cap, hv, hg, (Array.getElem?_eq_some_iff.1 hh).1, r1, r2, fun j hj => ?_⟩
    subst hv
    refine ⟨?_, World.ownsRow.frozenAt h' j⟩
    rw [World.ownsRow.cellAt h' j (by simpa using hj), List.getElem?_map, List.getElem?_eq_getElem hj, M.el_lt hj]
    rfl

theorem Own.row {W : World} {B : Nat} {v : Value} {zs : List Int} (h : Own W B v zs) : ∃ a cap, v = .slice a zs.length cap ∧ Row W a zs cap := by
  rcases h.parts with ⟨rfl, rfl⟩ | ⟨g, cap, rfl, _, _, r1, r2, hc⟩
  · exact ⟨none, 0, rfl, Nat.le_refl _, by omega, fun j hj => by simp at hj⟩
  · exact ⟨_, cap, rfl, r1, r2, fun j hj => ⟨g, 0, rfl, by simpa using (hc j hj).1⟩⟩

/-- The slice's first elements are owned, too. -/
theorem Own.take {W : World} {B : Nat} {a : Option Addr} {cap : Nat} {zs : List Int} (h : Own W B (.slice a zs.length cap) zs) (k : Nat) (hk : k ≤ zs.length) : Own W B (cut a cap (zs.take k)) (zs.take k) := by
  unfold cut
  split
  · rename_i e; rw [e]; exact Own.nil _ _
  · obtain ⟨h1, h2 | ⟨g, cap', cur, hv, hg, hh, r1, r2, r3, r4⟩⟩ := h
    · rename_i e
      have hz : zs = [] := List.length_eq_zero_iff.1 h2.2
      subst hz; simp at e
    · cases hv
      have e1 : (zs.take k).length = k := by simp [hk]
      refine ⟨by simp, .inr ⟨g, cap, cur, rfl, hg, hh, by omega, r2, r3, ?_⟩⟩
      rw [List.map_take, ← r4, List.take_take, e1]
      congr 1; omega

theorem Own.trimmed {W : World} {B : Nat} {a : Option Addr} {cap : Nat} {zs : List Int} (h : Own W B (.slice a zs.length cap) zs) : Own W B (cut a cap (M.trimL zs)) (M.trimL zs) := by
  have := h.take (M.trimL zs).length (M.trimL_len zs)
  rwa [M.trimL_take] at this

/-- A store into an owned slice. -/
theorem Own.set {W : World} {B : Nat} {g cap : Nat} {zs : List Int} (h : Own W B (.slice (some ⟨g, 0, none⟩) zs.length cap) zs) (j : Nat) (u : Int) : Own (W.setCell ⟨g, j, none⟩ (.int .i64 u)) B (.slice (some ⟨g, 0, none⟩) zs.length cap) (zs.set j u) := by
  unfold Own
  rw [List.length_set, List.map_set]
  exact (World.ownsRow.stored h j (.int .i64 u)).1

/-- A store below what is owned. -/
theorem Own.setBelow {W : World} {B : Nat} {v : Value} {zs : List Int} (h : Own W B v zs) {p : Addr} (hp : p.block < B) (u : Value) : Own (W.setCell p u) B v zs :=
  ownsRow_setCell_below h hp u

theorem cell_of_new (w : World) (v : Value) (t : TypeId) : (w.alloc (.cells #[v] t)).cell? ⟨w.heap.size, 0, none⟩ = some v ∧ (w.alloc (.cells #[v] t)).frozen? ⟨w.heap.size, 0, none⟩ = false :=
  ⟨cell_new _ _ _, frozen_new _ _ _⟩

theorem info_int : (Tryd.prog.info? 3).map (fun i => (i.zero, i.size, i.bytes)) = some (some (.int .i64 0), 1, 8) := by kernel_rfl

theorem Row.drewN {w : World} {a : Option Addr} {zs : List Int} {cap : Nat} (h : Row w a zs cap) (n : Nat) : Row (w.drewN n) a zs cap := ⟨h.room, h.most, h.el⟩

theorem Own.drewN {W : World} {B : Nat} {v : Value} {zs : List Int} (h : Own W B v zs) (n : Nat) : Own (W.drewN n) B v zs := h
theorem belowN {B : Nat} {w W : World} (h : Below B w W) (n : Nat) : Below B w (W.drewN n) := ⟨h.os, h.tape, h.output, h.size, h.block⟩

theorem Own.rowAt {W : World} {B : Nat} {a : Option Addr} {cap : Nat} {zs : List Int} (h : Own W B (.slice a zs.length cap) zs) : Row W a zs cap := by
  obtain ⟨a', cap', e, r⟩ := h.row
  cases e
  exact r

/-- Element k of a slice that is owned. -/
theorem Own.at {W : World} {B g cap : Nat} {zs : List Int} (h : Own W B (.slice (some ⟨g, 0, none⟩) zs.length cap) zs) (k : Nat) (hk : k < zs.length) : B ≤ g ∧ W.cell? ⟨g, k, none⟩ = some (.int .i64 (M.el zs k)) ∧ W.frozen? ⟨g, k, none⟩ = false := by
  rcases h.parts with ⟨e, rfl⟩ | ⟨g', cap', e, hb, _, _, _, hc⟩
  · simp at hk
  · cases e
    exact ⟨hb, hc k hk⟩

theorem Own.at2 {W : World} {B n cap : Nat} {a : Option Addr} {zs : List Int} (h : Own W B (.slice a n cap) zs) (k : Nat) (hk : k < zs.length) : ∃ g, a = some ⟨g, 0, none⟩ ∧ B ≤ g ∧ g < W.heap.size ∧ n ≤ cap ∧ cap ≤ 9223372036854775807 ∧ W.cell? ⟨g, k, none⟩ = some (.int .i64 (M.el zs k)) ∧ W.frozen? ⟨g, k, none⟩ = false := by
  rcases h.parts with ⟨e, rfl⟩ | ⟨g', cap', e, hb, h2, h3, h4, hc⟩
  · simp at hk
  · cases e
    exact ⟨g', rfl, hb, h2, h3, h4, hc k hk⟩
theorem Own.len {W : World} {B n cap : Nat} {a : Option Addr} {zs : List Int} (h : Own W B (.slice a n cap) zs) : n = zs.length := by
  rcases h.parts with ⟨e, rfl⟩ | ⟨g', cap', e, _⟩
  · cases e; rfl
  · cases e; rfl
/-- A store into another block. -/
theorem Own.other {W : World} {B : Nat} {v : Value} {zs : List Int} (h : Own W B v zs) {p : Addr} (u : Value) (hp : v.ownBlock ≠ some p.block) : Own (W.setCell p u) B v zs :=
  World.ownsRow.kept h (row := some p.block) ⟨rfl, rfl, rfl, by simp [World.setCell], fun k _ hk => Below.heap_setCell W p u k (fun e => hk (by rw [e]))⟩ (.inr hp)

theorem below_of_grown {W W' : World} {B : Nat} {v : Value} {zs : List Int} (h : Own W B v zs) (hg : W.grownBy W' v.ownBlock) (hB : B ≤ W.heap.size) : Below B W W' :=
  (Below.refl B W).grown hg hB (fun k e => (World.ownsRow.lt h k e).1)

/-- **make([]int, n)** -/
theorem wpList_make1 {W : World} {ops : Array Oper} {rest : List Oper} {o : Oper} {a : Act} {Q : Exit → Act → World → Prop} (hgd : o.guard = none) (l c : Operand) (hop : o.op = Op.makeSlice 22 l c)
    {B : Nat} (n : Nat) {L : Int} (hl : a.eval l = .int .i64 L) (hc : a.eval c = .int .i64 L) (hL : L = (n : Int)) (hn : n < 1000000) (hbase : B ≤ W.heap.size)
    (h : ∀ W', Own W' B (.slice (some ⟨W.heap.size, 0, none⟩) (List.replicate n (0 : Int)).length n) (List.replicate n 0) → Below B W W' → wpList Tryd.prog ops Q rest (a.put o.dst (.slice (some ⟨W.heap.size, 0, none⟩) n n)) W') : wpList Tryd.prog ops Q (o :: rest) a W := by
  obtain ⟨i0, hi, hz0, hz1, hz2⟩ := info_parts info_int
  refine wpList_make_full W hgd l c 22 hop B 3 i0 (.int .i64 0) 1 Tryd.underlying22 hi hz0 hz1 .i64 .i64 L L n hl hc hL hL (by rw [hz2]; omega) (by unfold maxLen; omega) hbase ?_
  intro W' hown hgrow
  refine h W' ?_ ((Below.refl B W).grown hgrow hbase (fun k e => by cases e))
  unfold Own
  rw [List.length_replicate, List.map_replicate]
  have e : (madeCells (Value.int .i64 0).cells (n * 1)).toList = List.replicate n (Value.int .i64 0) := by
    refine List.eq_replicate_iff.2 ⟨by simp [madeCells, Value.cells], fun b hb => ?_⟩
    simp [madeCells, Value.cells, Nat.mod_one] at hb
    exact hb.2.symm
  rw [e] at hown
  exact hown

/-- The value v is the number n. -/
def Num (W : World) (v : Value) (n : Nat) : Prop := ∃ a cap, v = .agg #[.slice a (M.dig n).length cap] ∧ Row W a (M.dig n) cap

/-- The result is the number n, or ErrLimit if it is too long. -/
def NatRes (n : Nat) (e : Ending) (W : World) : Prop := if (M.dig n).length ≤ 200 then ∃ v, e = .returned (.tuple #[v, .int .i64 0]) ∧ Num W v n else e = .returned (.tuple #[.agg #[.slice none 0 0], .int .i64 3])
theorem natRes_ok {n : Nat} {v : Value} {W : World} (h : (M.dig n).length ≤ 200) (hv : Num W v n) : NatRes n (.returned (.tuple #[v, .int .i64 0])) W := by
  unfold NatRes; rw [if_pos h]; exact ⟨v, rfl, hv⟩
theorem natRes_limit {n : Nat} {W : World} (h : ¬ (M.dig n).length ≤ 200) : NatRes n (.returned (.tuple #[.agg #[.slice none 0 0], .int .i64 3])) W := by
  unfold NatRes; rw [if_neg h]
theorem NatRes.ok {n : Nat} {e : Ending} {W : World} (h : NatRes n e W) (hl : (M.dig n).length ≤ 200) : ∃ v, e = .returned (.tuple #[v, .int .i64 0]) ∧ Num W v n := by
  unfold NatRes at h; rwa [if_pos hl] at h
theorem NatRes.limit {n : Nat} {e : Ending} {W : World} (h : NatRes n e W) (hl : ¬ (M.dig n).length ≤ 200) : e = .returned (.tuple #[.agg #[.slice none 0 0], .int .i64 3]) := by
  unfold NatRes at h; rwa [if_neg hl] at h

theorem Num.below {W W' : World} {v : Value} {n : Nat} (h : Num W v n) (hb : Below W.heap.size W W') : Num W' v n := by
  obtain ⟨a, cap, e, hr⟩ := h
  exact ⟨a, cap, e, hr.below hb⟩
theorem Own.num {W : World} {B : Nat} {v : Value} {n : Nat} (h : Own W B v (M.dig n)) : Num W (.agg #[v]) n := by
  obtain ⟨a, cap, rfl, hr⟩ := h.row
  exact ⟨a, cap, rfl, hr⟩

/-- **append(s, x)**, s owned. -/
theorem wpList_app1 {W : World} {ops : Array Oper} {rest : List Oper} {o : Oper} {a : Act} {Q : Exit → Act → World → Prop} (hgd : o.guard = none) (s x : Operand)
    (ho : o.op = .call { callee := .builtin .append, args := #[s, x], argTypes := #[22, 22] }) {B : Nat} {v : Value} {zs : List Int} {z : Int} (hs : a.eval s = v) (hown : Own W B v zs)
    {b : Nat} (hx : a.eval x = .slice (some ⟨b, 0, none⟩) 1 1) (hc : W.cell? ⟨b, 0, none⟩ = some (.int .i64 z)) (hl : zs.length < 1000000) (hbase : B ≤ W.heap.size)
    (h : ∀ a' cap' W', Own W' B (.slice a' (zs ++ [z]).length cap') (zs ++ [z]) → Below B W W' → wpList Tryd.prog ops Q rest (a.put o.dst (.slice a' (zs.length + 1) cap')) W') : wpList Tryd.prog ops Q (o :: rest) a W := by
  obtain ⟨i0, hi, hz0, hz1, hz2⟩ := info_parts info_int
  refine wpList_append_own W hgd s x 22 ho B 3 i0 (.int .i64 0) 1 8 Tryd.underlying22 hi hz0 hz1 hz2 rfl (by decide) v zs.length (zs.map (Value.int .i64)) hs hown ⟨b, 0, none⟩ 1 1 [.int .i64 z] hx rfl ?_ ?_ (by unfold maxLen; omega) (by omega) hbase ?_
  · intro j u hj
    match j, hj with
    | 0, hj => simp at hj; subst hj; simpa [Addr.add] using hc
  · intro u hu; simp at hu; subst hu; rfl
  · intro v' W' hown' hgrow _
    have ho2 : Own W' B v' (zs ++ [z]) := by unfold Own; simpa using hown'
    have hB2 : Below B W W' := (Below.refl B W).grown hgrow hbase (fun k e => (World.ownsRow.lt hown k e).1)
    obtain ⟨a', cap', rfl, _⟩ := ho2.row
    have := h a' cap' W' ho2 hB2
    simpa using this
end Go.Proofs.YtfaggdjoogpmmaaDoor

namespace Go.Proofs.YtfaggdjoogpmmaaDoor
open Go Go.RowKit

theorem toNat_ofInt64 (x : Int) : ((BitVec.ofInt 64 x).toNat : Int) = x % 18446744073709551616 := by
  rw [BitVec.toNat_ofInt]
  have : (0 : Int) ≤ x % ((2 ^ 64 : Nat) : Int) := Int.emod_nonneg _ (by decide)
  rw [Int.toNat_of_nonneg this]
  rfl

theorem mask24 (x : Int) : bits BinOp.and IntKind.i64 x 16777215 = x % 16777216 := by
  show IntKind.i64.wrap ((BitVec.ofInt 64 x &&& BitVec.ofInt 64 16777215).toNat : Int) = _
  have h1 := toNat_ofInt64 x
  have h2 : (BitVec.ofInt 64 16777215).toNat = 2 ^ 24 - 1 := by decide
  rw [BitVec.toNat_and, h2, Nat.and_two_pow_sub_one_eq_mod, IntKind.wrap_i64]
  omega

theorem or24 (x y : Int) (hx : 0 ≤ x) (hx2 : x < 549755813888) (hy : 0 ≤ y) (hy2 : y < 16777216) : bits BinOp.or IntKind.i64 (x * 16777216) y = x * 16777216 + y := by
  show IntKind.i64.wrap ((BitVec.ofInt 64 (x * 16777216) ||| BitVec.ofInt 64 y).toNat : Int) = _
  have h1 := toNat_ofInt64 (x * 16777216)
  have h2 := toNat_ofInt64 y
  obtain ⟨a, rfl⟩ := Int.eq_ofNat_of_zero_le hx
  obtain ⟨b, rfl⟩ := Int.eq_ofNat_of_zero_le hy
  have e1 : (BitVec.ofInt 64 ((a : Int) * 16777216)).toNat = 2 ^ 24 * a := by omega
  have e2 : (BitVec.ofInt 64 (b : Int)).toNat = b := by omega
  rw [BitVec.toNat_or, e1, e2, ← Nat.two_pow_add_eq_or_of_lt (by omega), IntKind.wrap_i64]
  omega
end Go.Proofs.YtfaggdjoogpmmaaDoor

namespace Go.Proofs.YtfaggdjoogpmmaaDoor.M

/-- One step of adding t times the divisor. -/
theorem addT_step {P V c z t y A B : Int} (h : V + P * c = A + t * B) :
    (V + P * ((c + (z + t * y)) % 16777216)) + P * 16777216 * ((c + (z + t * y)) / 16777216) = (A + P * z) + t * (B + P * y) := by
  have h1 := pow_split P (c + (z + t * y))
  have h2 : P * (c + (z + t * y)) = P * c + P * z + t * (P * y) := by grind
  have h3 : t * (B + P * y) = t * B + t * (P * y) := Int.mul_add ..
  omega

/-- The product in a step, and what is carried on. -/
theorem addT_prod {t y : Int} (hy : 0 ≤ y ∧ y < 16777216) (ht : -16777216 < t ∧ t ≤ 1) : -281474943156225 ≤ t * y ∧ t * y ≤ 16777215 := by
  rcases Int.lt_or_le 0 t with h | h
  · obtain rfl : t = 1 := by omega
    omega
  · have h1 := (mul_bound (a := -t) (b := y) (by omega) hy)
    have h2 : -t * y = -(t * y) := Int.neg_mul ..
    omega
theorem addT_carry {c z p : Int} (hc : -16777216 ≤ c ∧ c ≤ 16777216) (hz : 0 ≤ z ∧ z < 16777216) (hp : -281474943156225 ≤ p ∧ p ≤ 16777215) :
    -16777216 ≤ (c + (z + p)) / 16777216 ∧ (c + (z + p)) / 16777216 ≤ 16777216 := by omega

/-- The highest limb of a part that is less than the divisor, or negative. -/
theorem top_zero {ps : List Int} {n : Nat} (hl : ps.length = n + 1) (hlim : Lim (ps.take n)) (h0 : 0 ≤ val ps) (h1 : val ps < 16777216 ^ n) : el ps n = 0 := by
  have h2 := val_take_succ ps n (by omega)
  rw [List.take_of_length_le (by omega)] at h2
  have h3 := val_lt hlim
  have h4 := val_nonneg hlim
  rw [List.length_take, Nat.min_eq_left (by omega)] at h3
  have hp := pow_pos n
  rcases Int.lt_trichotomy (el ps n) 0 with h | h | h
  · have : 16777216 ^ n * el ps n ≤ (16777216 : Int) ^ n * -1 := Int.mul_le_mul_of_nonneg_left (by omega) (by omega)
    omega
  · exact h
  · have : (16777216 : Int) ^ n * 1 ≤ 16777216 ^ n * el ps n := Int.mul_le_mul_of_nonneg_left (by omega) (by omega)
    omega
theorem top_neg {ps : List Int} {n : Nat} (hl : ps.length = n + 1) (hlim : Lim (ps.take n)) (h0 : val ps < 0) (h1 : -16777216 ^ n ≤ val ps) : el ps n = -1 := by
  have h2 := val_take_succ ps n (by omega)
  rw [List.take_of_length_le (by omega)] at h2
  have h3 := val_lt hlim
  have h4 := val_nonneg hlim
  rw [List.length_take, Nat.min_eq_left (by omega)] at h3
  have hp := pow_pos n
  rcases Int.lt_trichotomy (el ps n) (-1) with h | h | h
  · have : 16777216 ^ n * el ps n ≤ (16777216 : Int) ^ n * -2 := Int.mul_le_mul_of_nonneg_left (by omega) (by omega)
    omega
  · exact h
  · have : (16777216 : Int) ^ n * 0 ≤ 16777216 ^ n * el ps n := Int.mul_le_mul_of_nonneg_left (by omega) (by omega)
    omega
theorem lim_of_top {ps : List Int} {n : Nat} (hl : ps.length = n + 1) (hlim : Lim (ps.take n)) (h : el ps n = 0) : Lim ps := by
  refine lim_of_get fun i hi => ?_
  by_cases e : i = n
  · subst e; omega
  · have := hlim.get i
    rwa [el_take (by omega)] at this

/-- The guess of three limbs by two is the quotient, or one more. -/
theorem guess_ok {P D K P3 D2 p d : Nat} (hK : 0 < K) (hP : P = P3 * K + p) (hp : p < K) (hD : D = D2 * K + d) (hd : d < K) (h2 : 16777216 ≤ D2) (hlt : P < D * 16777216) :
    P / D ≤ min (P3 / D2) 16777215 ∧ min (P3 / D2) 16777215 ≤ P / D + 1 := by
  have hD0 : 0 < D := by
    have : 0 < D2 * K := Nat.mul_pos (by omega) hK
    omega
  have hq : P / D * D ≤ P := Nat.div_mul_le_self P D
  constructor
  · refine Nat.le_min.2 ⟨?_, ?_⟩
    · rw [Nat.le_div_iff_mul_le (by omega)]
      have h3 : P / D * D2 * K ≤ P / D * D := by
        rw [Nat.mul_assoc]; exact Nat.mul_le_mul_left _ (by omega)
      have h4 : P / D * D2 * K < (P3 + 1) * K := by rw [Nat.succ_mul]; omega
      exact Nat.le_of_lt_succ (Nat.lt_of_mul_lt_mul_right h4)
    · have : P / D < 16777216 := (Nat.div_lt_iff_lt_mul hD0).2 (by rwa [Nat.mul_comm] at hlt)
      omega
  · generalize hg : min (P3 / D2) 16777215 = g
    have g1 : g ≤ P3 / D2 := by omega
    have g2 : g ≤ 16777215 := by omega
    match g, g1, g2 with
    | 0, _, _ => exact Nat.zero_le _
    | s + 1, g1, g2 =>
      refine Nat.succ_le_succ ((Nat.le_div_iff_mul_le hD0).2 ?_)
      have h5 : (s + 1) * D2 ≤ P3 := (Nat.le_div_iff_mul_le (by omega)).1 g1
      have h6 : (s + 1) * D2 * K ≤ P3 * K := Nat.mul_le_mul_right _ h5
      have h7 : s * d ≤ D2 * K := Nat.le_trans (Nat.mul_le_mul (by omega : s ≤ D2) (Nat.le_of_lt hd)) (Nat.le_refl _)
      have h8 : s * D = s * D2 * K + s * d := by rw [hD, Nat.mul_add, Nat.mul_assoc]
      have h9 : (s + 1) * D2 * K = s * D2 * K + D2 * K := by rw [Nat.succ_mul, Nat.add_mul]
      omega

/-- Div64's step: q is not less than the quotient; if its test says that it is too great, one less still isn't. -/
theorem div_ge {U Y q : Nat} (hY : 0 < Y) (h : U < q * Y) : U / Y ≤ q - 1 := by
  have : U / Y < q := (Nat.div_lt_iff_lt_mul hY).2 h
  omega
theorem div_eq {U Y q : Nat} (hY : 0 < Y) (hq : U / Y ≤ q) (h : q * Y ≤ U) : U / Y = q :=
  Nat.le_antisymm hq ((Nat.le_div_iff_mul_le hY).2 h)

/-- The value of the limbs from place i on. -/
theorem val_split (zs : List Int) (i : Nat) : val zs = val (zs.take i) + 16777216 ^ (min i zs.length) * val (zs.drop i) := by
  have := val_append (zs.take i) (zs.drop i)
  rwa [List.take_append_drop, List.length_take] at this
end Go.Proofs.YtfaggdjoogpmmaaDoor.M

namespace Go.Proofs.YtfaggdjoogpmmaaDoor
open Go Go.RowKit Go.Shelf
attribute [local go_sem] mask24

theorem el_mid (xs qs us : List Int) (k : Nat) (hk : k < qs.length) : M.el (xs ++ qs ++ us) (xs.length + k) = M.el qs k := by
  rw [M.el_append_left (by simp; omega), M.el_append_right (by omega), Nat.add_sub_cancel_left]
theorem set_mid (xs qs us : List Int) (k : Nat) (u : Int) (hk : k < qs.length) : (xs ++ qs ++ us).set (xs.length + k) u = xs ++ qs.set k u ++ us := by
  rw [List.set_append_left _ _ (by simp; omega), List.set_append_right _ _ (by omega), Nat.add_sub_cancel_left]

theorem Own.mid {W : World} {B g cap L : Nat} {xs qs us : List Int} (h : Own W B (.slice (some ⟨g, 0, none⟩) L cap) (xs ++ qs ++ us)) (k : Nat) (hk : k < qs.length) :
    W.cell? ⟨g, xs.length + k, none⟩ = some (.int .i64 (M.el qs k)) ∧ W.frozen? ⟨g, xs.length + k, none⟩ = false ∧ B ≤ g ∧ g < W.heap.size ∧ cap ≤ 9223372036854775807 ∧ xs.length + qs.length ≤ cap := by
  have hl := h.len
  obtain ⟨g', e, hB, hW, h3, h4, hc, hf⟩ := h.at2 (xs.length + k) (by simp; omega)
  cases e
  rw [el_mid _ _ _ _ hk] at hc
  exact ⟨hc, hf, hB, hW, h4, by rw [List.length_append, List.length_append] at hl; omega⟩
theorem Own.setMid {W : World} {B g cap L : Nat} {xs qs us : List Int} (h : Own W B (.slice (some ⟨g, 0, none⟩) L cap) (xs ++ qs ++ us)) (k : Nat) (hk : k < qs.length) (u : Int) :
    Own (W.setCell ⟨g, xs.length + k, none⟩ (.int .i64 u)) B (.slice (some ⟨g, 0, none⟩) L cap) (xs ++ qs.set k u ++ us) := by
  have hl := h.len
  subst hl
  have := h.set (xs.length + k) u
  rwa [set_mid _ _ _ _ _ hk] at this
theorem grown_trans {a b c : World} {row : Option Nat} (h : a.grownBy b row) (k : b.grownBy c row) : a.grownBy c row :=
  ⟨k.os.trans h.os, k.tape.trans h.tape, k.output.trans h.output, Nat.le_trans h.size k.size, fun i hi hne => (k.block i (Nat.lt_of_lt_of_le hi h.size) hne).trans (h.block i hi hne)⟩
theorem grown_set {w W : World} {g : Nat} (h : w.grownBy W (some g)) (j : Nat) (u : Value) : w.grownBy (W.setCell ⟨g, j, none⟩ u) (some g) :=
  ⟨h.os, h.tape, h.output, by simpa [World.setCell] using h.size, fun k hk hne => (Below.heap_setCell W ⟨g, j, none⟩ u k (fun e => hne (by rw [e]))).trans (h.block k hk hne)⟩
theorem Row.grown {w W : World} {a : Option Addr} {zs : List Int} {cap : Nat} {row : Option Nat} (h : Row w a zs cap) (hg : w.grownBy W row) (hne : ∀ b off, a = some ⟨b, off, none⟩ → some b ≠ row) : Row W a zs cap :=
  ⟨h.room, h.most, fun j hj => by
    obtain ⟨b, off, e, hc⟩ := h.el j hj
    exact ⟨b, off, e, (World.cell?_of_block (hg.block b (lt_of_cell hc) (hne b off e))).trans hc⟩⟩

def AtRel (w : World) (B g cap L n : Nat) (xs ps us ds : List Int) (t : Int) (v i : Value) (wr : World) : Prop :=
  ∃ (k : Nat) (qs : List Int) (c : Int), i = .int .i64 (k : Int) ∧ v = .int .i64 c ∧ k ≤ n ∧ qs.length = n + 1 ∧ M.Lim (qs.take n) ∧ qs.drop k = ps.drop k ∧ M.val (qs.take k) + 16777216 ^ k * c = M.val (ps.take k) + t * M.val (ds.take k) ∧
    -16777216 ≤ c ∧ c ≤ 16777216 ∧ Own wr B (.slice (some ⟨g, 0, none⟩) L cap) (xs ++ qs ++ us) ∧ w.grownBy wr (some g)
def AtPost (w : World) (B g cap L n : Nat) (xs ps us ds : List Int) (t : Int) (e : Ending) (W : World) : Prop :=
  ∃ qs : List Int, e = .returned (.int .i64 (M.el qs n)) ∧ qs.length = n + 1 ∧ M.Lim (qs.take n) ∧ M.val qs = M.val ps + t * M.val ds ∧ Own W B (.slice (some ⟨g, 0, none⟩) L cap) (xs ++ qs ++ us) ∧ w.grownBy W (some g)

set_option maxRecDepth 100000 in
set_option maxHeartbeats 1000000 in
/-- **nat.addTimes** -/
theorem addTimes_any (B g cap L cp cd n : Nat) (xs ps us ds : List Int) (ad : Option Addr) (t : Int) (w : World) (hown : Own w B (.slice (some ⟨g, 0, none⟩) L cap) (xs ++ ps ++ us))
    (hlp : ps.length = n + 1) (hcp : n + 1 ≤ cp) (hd : Row w ad ds cd) (hld : ds.length = n) (hne : ∀ b off, ad = some ⟨b, off, none⟩ → b ≠ g)
    (hlimp : M.Lim (ps.take n)) (htop : -16777216 ≤ M.el ps n ∧ M.el ps n < 16777216) (hlimd : M.Lim ds) (ht : -16777216 < t ∧ t ≤ 1) :
    Calls Tryd.prog 119 #[.slice (some ⟨g, xs.length, none⟩) (n + 1) cp, .slice ad n cd, .int .i64 t] w (AtPost w B g cap L n xs ps us ds t) := by
  have hdm := hd.room
  have hdm2 := hd.most
  have HO0 := Lib.hid hown
  have HD := Lib.hid hd
  have HNE := Lib.hid hne
  have HLP := Lib.hid hlp
  have HLD := Lib.hid hld
  have HLIMP := Lib.hid hlimp
  have HLIMD := Lib.hid hlimd
  have HTOP := Lib.hid htop
  clear hown hd hne hlp hlimp hlimd htop
  rw [hld] at hdm
  clear hld
  go_enter Tryd.func119, Tryd.ntmps119
  go_wp2
  go_loopw [7, 12] (fun c i wr => AtRel w B g cap L n xs ps us ds t c i wr) (fun _ i _ => n - (intOf i).toNat)
  case atStart => exact ⟨0, ps, 0, rfl, rfl, Nat.zero_le _, HLP.out, HLIMP.out, rfl, by simp [M.val], by omega, by omega, HO0.out, World.grownBy.refl _ _⟩
  case round =>
    obtain ⟨k, qs, c, rfl, rfl, hk, hlq, hlimq, hdrop, hval, hc0, hc1, hown, hgr⟩ := hrel
    have HLQ := Lib.hid hlq
    have HLIMQ := Lib.hid hlimq
    have HDR := Lib.hid hdrop
    have HV := Lib.hid hval
    have HO := Lib.hid hown
    have HG := Lib.hid hgr
    have hsz := hgr.size
    clear hlq hlimq hdrop hval hown hgr
    have hez : M.el qs k = M.el ps k := by
      have := congrArg (fun l => M.el l 0) HDR.out
      simpa only [M.el_drop, Nat.add_zero] using this
    by_cases hlt : k < n
    · have hD := HD.out.grown HG.out (fun b off e => by intro h; cases h; exact HNE.out _ _ e rfl)
      obtain ⟨db, dof, rfl, hcd⟩ := hD.el k (by rw [HLD.out]; exact hlt)
      obtain ⟨hcz, hfz, hgB, hgW, hcap, hcap2⟩ := HO.out.mid k (by rw [HLQ.out]; omega)
      rw [HLQ.out] at hcap2
      have hz := HLIMP.out.get k
      rw [M.el_take hlt, ← hez] at hz
      have hy := HLIMD.out.get k
      have hpr := M.addT_prod hy ht
      have hcr := M.addT_carry (c := c) ⟨hc0, hc1⟩ hz hpr
      obtain ⟨X, hX⟩ : ∃ X, t * M.el ds k = X := ⟨_, rfl⟩
      rw [hX] at hpr hcr
      have HX := Lib.hid hX
      have hXw : IntKind.i64.wrap (t * M.el ds k) = X := by rw [hX, IntKind.wrap_i64]; omega
      have HEZ := Lib.hid hez
      clear hez hX hD
      obtain ⟨z, hz'⟩ : ∃ z, M.el qs k = z := ⟨_, rfl⟩
      rw [hz'] at hcz hz hcr
      have HZ := Lib.hid hz'
      clear hz'
      go_wp2
      go_roundw
      case rel =>
        have hkl : k < qs.length := by rw [HLQ.out]; omega
        refine ⟨k + 1, qs.set k ((c + (z + X)) % 16777216), (c + (z + X)) / 16777216, by go_num, rfl, by omega, by rw [List.length_set]; exact HLQ.out, ?_, ?_, ?_, hcr.1, hcr.2, HO.out.setMid k hkl _, grown_set HG.out _ _⟩
        · rw [List.take_set]
          exact HLIMQ.out.set _ (by omega) (by omega)
        · rw [List.drop_set_of_lt (by omega)]
          have := congrArg (List.drop 1) HDR.out
          rwa [List.drop_drop, List.drop_drop] at this
        · rw [M.val_set_succ _ _ _ hkl, M.val_take_succ', M.val_take_succ', Int.pow_succ, ← HEZ.out, HZ.out]
          have := M.addT_step (z := z) (y := M.el ds k) HV.out
          rwa [HX.out] at this
      case measure => simp [intOf]; omega
    · obtain rfl : k = n := by omega
      obtain ⟨hcz, hfz, hgB, hgW, hcap, hcap2⟩ := HO.out.mid k (by rw [HLQ.out]; omega)
      rw [HLQ.out] at hcap2
      have htop := HTOP.out
      rw [← hez] at htop
      have HEZ := Lib.hid hez
      clear hez
      obtain ⟨z, hz'⟩ : ∃ z, M.el qs k = z := ⟨_, rfl⟩
      rw [hz'] at hcz htop
      have HZ := Lib.hid hz'
      clear hz'
      go_wp2
      go_ret
      have hkl : k < qs.length := by rw [HLQ.out]; omega
      refine ⟨qs.set k (z + c), (show _ = Ending.returned (Value.int .i64 (z + c)) from rfl).trans (by rw [M.el_set _ _ _ _ hkl, if_pos rfl]), by rw [List.length_set]; exact HLQ.out, ?_, ?_, HO.out.setMid k hkl _, grown_set HG.out _ _⟩
      · rw [List.take_set_of_le (Nat.le_refl _)]
        exact HLIMQ.out
      · have h1 := M.val_take_succ qs k hkl
        have h2 := M.val_take_succ ps k (by rw [HLP.out]; omega)
        rw [List.take_of_length_le (by rw [HLQ.out]; omega)] at h1
        rw [List.take_of_length_le (by rw [HLP.out]; omega)] at h2
        have h3 := HV.out
        rw [List.take_of_length_le (l := ds) (by rw [HLD.out]; omega)] at h3
        rw [M.val_set _ _ _ hkl, h1, h2, HZ.out, ← HEZ.out, HZ.out, show z + c - z = c by omega]
        omega
end Go.Proofs.YtfaggdjoogpmmaaDoor

namespace Go.Proofs.YtfaggdjoogpmmaaDoor
open Go Go.RowKit Go.Shelf

def lenRen : Go.Shelf.Ren := ⟨fun | 125 => 75 | 128 => 102 | 129 => 103 | n => n, fun | 46 => 52 | 3 => 3 | 51 => 94 | 53 => 96 | 4 => 4 | 5 => 5 | 9 => 9 | n => n, fun | n => n⟩
theorem lenLays : Go.Proofs.Lays.n125 Tryd.prog lenRen := {
  mixed := by kernel_rfl
  f125 := Tryd.func75.trans (congrArg some (by kernel_rfl))
  f128 := Tryd.func102.trans (congrArg some (by kernel_rfl))
  f129 := Tryd.func103.trans (congrArg some (by kernel_rfl))
  t3 := Tryd.underlying3
  a3 := Tryd.isAgg3
  z3 := Tryd.sizeOf3
  v3 := Tryd.zeroValue3
  t4 := Tryd.underlying4
  a4 := Tryd.isAgg4
  z4 := Tryd.sizeOf4
  v4 := Tryd.zeroValue4
  t5 := Tryd.underlying5
  a5 := Tryd.isAgg5
  z5 := Tryd.sizeOf5
  v5 := Tryd.zeroValue5
  t9 := Tryd.underlying9
  a9 := Tryd.isAgg9
  z9 := Tryd.sizeOf9
  v9 := Tryd.zeroValue9
  t46 := Tryd.underlying52
  a46 := Tryd.isAgg52
  z46 := Tryd.sizeOf52
  v46 := Tryd.zeroValue52
  t51 := Tryd.underlying94
  a51 := Tryd.isAgg94
  z51 := Tryd.sizeOf94
  v51 := Tryd.zeroValue94
  t53 := Tryd.underlying96
  a53 := Tryd.isAgg96
  z53 := Tryd.sizeOf96
  v53 := Tryd.zeroValue96 }
theorem bitsLen_any (x : Int) (w : World) (h0 : 0 ≤ x) (h1 : x ≤ 18446744073709551615) :
    Calls Tryd.prog 75 #[.int .u64 x] w fun e w' => e = .returned (.int .i64 (Lib.bitLen x.toNat)) ∧ w' = w := Any.bits_Len lenLays x w h0 h1
def cmpRen : Go.Shelf.Ren := ⟨fun | 122 => 84 | 215 => 109 | n => n, fun | 3 => 3 | 4 => 4 | n => n, fun | n => n⟩
theorem cmpLays : Go.Proofs.Lays.n122 Tryd.prog cmpRen := {
  mixed := by kernel_rfl
  f122 := Tryd.func84.trans (congrArg some (by kernel_rfl))
  f215 := Tryd.func109.trans (congrArg some (by kernel_rfl))
  t3 := Tryd.underlying3
  a3 := Tryd.isAgg3
  z3 := Tryd.sizeOf3
  v3 := Tryd.zeroValue3
  t4 := Tryd.underlying4
  a4 := Tryd.isAgg4
  z4 := Tryd.sizeOf4
  v4 := Tryd.zeroValue4 }
theorem compare_any (x y : Int) (w : World) :
    Calls Tryd.prog 84 #[.int .i64 x, .int .i64 y] w fun e w' => e = .returned (.int .i64 (Lib.compareInt x y)) ∧ w' = w := Any.cmp_Compare_int cmpLays x y w
end Go.Proofs.YtfaggdjoogpmmaaDoor

namespace Go.Proofs.YtfaggdjoogpmmaaDoor
open Go Go.RowKit Go.Shelf

def lzRen : Go.Shelf.Ren := ⟨fun | 129 => 103 | 134 => 126 | n => n, fun | 46 => 52 | 3 => 3 | 53 => 96 | 4 => 4 | 5 => 5 | 9 => 9 | n => n, fun | n => n⟩
theorem lzLays : Go.Proofs.Lays.n134 Tryd.prog lzRen := {
  mixed := by kernel_rfl
  f129 := Tryd.func103.trans (congrArg some (by kernel_rfl))
  f134 := Tryd.func126.trans (congrArg some (by kernel_rfl))
  t3 := Tryd.underlying3
  a3 := Tryd.isAgg3
  z3 := Tryd.sizeOf3
  v3 := Tryd.zeroValue3
  t4 := Tryd.underlying4
  a4 := Tryd.isAgg4
  z4 := Tryd.sizeOf4
  v4 := Tryd.zeroValue4
  t5 := Tryd.underlying5
  a5 := Tryd.isAgg5
  z5 := Tryd.sizeOf5
  v5 := Tryd.zeroValue5
  t9 := Tryd.underlying9
  a9 := Tryd.isAgg9
  z9 := Tryd.sizeOf9
  v9 := Tryd.zeroValue9
  t46 := Tryd.underlying52
  a46 := Tryd.isAgg52
  z46 := Tryd.sizeOf52
  v46 := Tryd.zeroValue52
  t53 := Tryd.underlying96
  a53 := Tryd.isAgg96
  z53 := Tryd.sizeOf96
  v53 := Tryd.zeroValue96 }

theorem len48 (n : Nat) (h0 : 140737488355328 ≤ n) (h1 : n < 281474976710656) : Lib.bitLen n = 48 := by
  rw [Lib.bitLen_shift 47 n (by omega) (by omega), show n / 2 ^ 47 = 1 by omega]
  rfl
theorem lz_48 (y : Int) (w : World) (h0 : 140737488355328 ≤ y) (h1 : y < 281474976710656) :
    Calls Tryd.prog 126 #[.int .u64 y] w fun e w' => e = .returned (.int .i64 16) ∧ w' = w := by
  refine (show Calls Tryd.prog 126 #[.int .u64 y] w _ from Any.bits_LeadingZeros64 lzLays y w (by omega) (by omega)).mono ?_
  rintro e w' ⟨rfl, rfl⟩
  rw [len48 y.toNat (by omega) (by omega)]
  exact ⟨rfl, rfl⟩

theorem mask32u (x : Int) : bits BinOp.and IntKind.u64 x 4294967295 = x % 4294967296 := by
  show IntKind.u64.wrap ((BitVec.ofInt 64 x &&& BitVec.ofInt 64 4294967295).toNat : Int) = _
  have h1 := toNat_ofInt64 x
  have h2 : (BitVec.ofInt 64 4294967295).toNat = 2 ^ 32 - 1 := by decide
  rw [BitVec.toNat_and, h2, Nat.and_two_pow_sub_one_eq_mod, IntKind.wrap_u64]
  omega
theorem or16u (x y : Int) (hx : 0 ≤ x) (hx2 : x < 281474976710656) (hy : 0 ≤ y) (hy2 : y < 65536) : bits BinOp.or IntKind.u64 (x * 65536) y = x * 65536 + y := by
  show IntKind.u64.wrap ((BitVec.ofInt 64 (x * 65536) ||| BitVec.ofInt 64 y).toNat : Int) = _
  have h1 := toNat_ofInt64 (x * 65536)
  have h2 := toNat_ofInt64 y
  obtain ⟨a, rfl⟩ := Int.eq_ofNat_of_zero_le hx
  obtain ⟨b, rfl⟩ := Int.eq_ofNat_of_zero_le hy
  have e1 : (BitVec.ofInt 64 ((a : Int) * 65536)).toNat = 2 ^ 16 * a := by omega
  have e2 : (BitVec.ofInt 64 (b : Int)).toNat = b := by omega
  rw [BitVec.toNat_or, e1, e2, ← Nat.two_pow_add_eq_or_of_lt (by omega), IntKind.wrap_u64]
  omega
theorem or24u (x y : Int) (hx : 0 ≤ x) (hx2 : x < 1099511627776) (hy : 0 ≤ y) (hy2 : y < 16777216) : bits BinOp.or IntKind.u64 (x * 16777216) y = x * 16777216 + y := by
  show IntKind.u64.wrap ((BitVec.ofInt 64 (x * 16777216) ||| BitVec.ofInt 64 y).toNat : Int) = _
  have h1 := toNat_ofInt64 (x * 16777216)
  have h2 := toNat_ofInt64 y
  obtain ⟨a, rfl⟩ := Int.eq_ofNat_of_zero_le hx
  obtain ⟨b, rfl⟩ := Int.eq_ofNat_of_zero_le hy
  have e1 : (BitVec.ofInt 64 ((a : Int) * 16777216)).toNat = 2 ^ 24 * a := by omega
  have e2 : (BitVec.ofInt 64 (b : Int)).toNat = b := by omega
  rw [BitVec.toNat_or, e1, e2, ← Nat.two_pow_add_eq_or_of_lt (by omega), IntKind.wrap_u64]
  omega

theorem div64_le {U y m b p r Q R : Int} (hV : m * 4294967296 + b = U * 65536) (hW : p * 4294967296 + r = y * 65536) (hQ : Q * p + R = m) (h : Q * r ≤ 4294967296 * R + b) : Q * y ≤ U := by
  have h1 : Q * (p * 4294967296 + r) = Q * p * 4294967296 + Q * r := by rw [Int.mul_add, Int.mul_assoc]
  have h2 : Q * (y * 65536) = Q * y * 65536 := by rw [Int.mul_assoc]
  rw [hW, h2] at h1
  omega
theorem div64_lt {U y m b p r Q R : Int} (hV : m * 4294967296 + b = U * 65536) (hW : p * 4294967296 + r = y * 65536) (hQ : Q * p + R = m) (h : 4294967296 * R + b < Q * r) : U < Q * y := by
  have h1 : Q * (p * 4294967296 + r) = Q * p * 4294967296 + Q * r := by rw [Int.mul_add, Int.mul_assoc]
  have h2 : Q * (y * 65536) = Q * y * 65536 := by rw [Int.mul_assoc]
  rw [hW, h2] at h1
  omega
theorem div64_start {U y m b p r : Int} (hV : m * 4294967296 + b = U * 65536) (hW : p * 4294967296 + r = y * 65536) (hb : b < 4294967296) (hp : 0 < p) (hr : 0 ≤ r) (hy : 0 < y) (hU : 0 ≤ U) : U / y ≤ m / p := by
  refine Int.le_ediv_of_mul_le hp ?_
  have h0 : U / y * y ≤ U := Int.ediv_mul_le U (by omega)
  have hk : 0 ≤ U / y := Int.ediv_nonneg hU (by omega)
  generalize U / y = k at *
  have h1 : k * (p * 4294967296 + r) = k * p * 4294967296 + k * r := by rw [Int.mul_add, Int.mul_assoc]
  have h2 : k * (y * 65536) = k * y * 65536 := by rw [Int.mul_assoc]
  have h3 : 0 ≤ k * r := Int.mul_nonneg hk hr
  rw [hW, h2] at h1
  omega
theorem div64_prod {Q r : Int} (h0 : 0 ≤ Q) (h1 : Q < 33554432) (hr : 0 ≤ r ∧ r < 4294967296) : 0 ≤ Q * r ∧ Q * r < 144115188075855872 := by
  refine ⟨Int.mul_nonneg h0 hr.1, ?_⟩
  have := Int.mul_le_mul (a := Q) (b := r) (c := 33554431) (d := 4294967295) (by omega) (by omega) hr.1 (by decide)
  omega
theorem div64_eq {U y Q : Int} (hy : 0 < y) (h : U / y ≤ Q) (hl : Q * y ≤ U) : U / y = Q := Int.le_antisymm h (Int.le_ediv_of_mul_le hy hl)
theorem div64_down {U y Q : Int} (hy : 0 < y) (h : U < Q * y) : U / y ≤ Q - 1 := by
  have := Int.ediv_lt_of_lt_mul hy h
  omega

def Div64Rel (hi lo y m p q : Int) (v1 v2 : Value) : Prop :=
  ∃ Q R : Int, v1 = .int .u64 Q ∧ v2 = .int .u64 R ∧ Q * p + R = m ∧ 0 ≤ Q ∧ Q ≤ q ∧ 0 ≤ R ∧ R < 4294967296 ∧ (hi * 18446744073709551616 + lo) / y ≤ Q

set_option maxRecDepth 100000 in
set_option maxHeartbeats 1000000 in
theorem div64_any (hi lo y : Int) (w : World) (h0 : 0 ≤ hi) (h1 : hi < 256) (l0 : 0 ≤ lo) (l1 : lo < 18446744073709551616) (y0 : 140737488355328 ≤ y) (y1 : y < 281474976710656) :
    Calls Tryd.prog 124 #[.int .u64 hi, .int .u64 lo, .int .u64 y] w fun e w' => (∃ r, e = .returned (.tuple #[.int .u64 ((hi * 18446744073709551616 + lo) / y), r])) ∧ Below w.heap.size w w' := by
  have HLZ := Lib.hid (lz_48 y w y0 y1)
  have n1 : ¬ y = 0 := by omega
  have n2 : ¬ y ≤ hi := by omega
  by_cases hz : hi = 0
  · subst hz
    go_enter Tryd.func124, Tryd.ntmps124
    go_wp2_with fail
    go_quiet (fail)
    go_wp2
    refine bodyPost_ret (v := .tuple #[.int .u64 (lo / y), .int .u64 (lo % y)]) (by simp [results, Tryd.results124, go_sem]) rfl ⟨⟨.int .u64 (lo % y), ?_⟩, belowN (Below.refl _ _) _⟩
    rw [Int.zero_mul, Int.zero_add]
  · obtain ⟨u, hu⟩ : ∃ u, u = hi * 65536 + lo / 281474976710656 := ⟨_, rfl⟩
    have e2 : bits BinOp.or IntKind.u64 (hi * 65536) (lo / 281474976710656) = u := by rw [or16u _ _ (by omega) (by omega) (by omega) (by omega), hu]
    obtain ⟨p, hp⟩ : ∃ p, y * 65536 / 4294967296 = p := ⟨_, rfl⟩
    obtain ⟨r, hr⟩ : ∃ r, (y * 65536) % 4294967296 = r := ⟨_, rfl⟩
    have e3 : bits BinOp.and IntKind.u64 (y * 65536) 4294967295 = r := by rw [mask32u, hr]
    obtain ⟨z, hzz⟩ : ∃ z, IntKind.u64.wrap (lo * 65536) = z := ⟨_, rfl⟩
    have hz' : z = (lo * 65536) % 18446744073709551616 := by rw [← hzz, IntKind.wrap_u64]
    obtain ⟨a, ha⟩ : ∃ a, z / 4294967296 = a := ⟨_, rfl⟩
    obtain ⟨b, hb⟩ : ∃ b, z % 4294967296 = b := ⟨_, rfl⟩
    have e4 : bits BinOp.and IntKind.u64 z 4294967295 = b := by rw [mask32u, hb]
    have hu0 : 0 ≤ u ∧ u < 16777216 := by omega
    have hp0 : 2147483648 ≤ p ∧ p < 4294967296 := by omega
    have hr0 : 0 ≤ r ∧ r < 4294967296 := by omega
    have ha0 : 0 ≤ a ∧ a < 4294967296 := by omega
    have hb0 : 0 ≤ b ∧ b < 4294967296 := by omega
    have hy' : p * 4294967296 + r = y * 65536 := by omega
    have hU : u * 18446744073709551616 + (a * 4294967296 + b) = (hi * 18446744073709551616 + lo) * 65536 := by omega
    have e5 : IntKind.u64.wrap (u.tdiv p) = 0 := by
      rw [Int.tdiv_eq_ediv_of_nonneg hu0.1, Int.ediv_eq_zero_of_lt hu0.1 (by omega)]; rfl
    have e6 : IntKind.u64.wrap u = u := by rw [IntKind.wrap_u64]; omega
    obtain ⟨m, hm⟩ : ∃ m, u * 4294967296 + a = m := ⟨_, rfl⟩
    obtain ⟨q, hq⟩ : ∃ q, q = m / p := ⟨_, rfl⟩
    have e9 : IntKind.u64.wrap (m.tdiv p) = q := by
      rw [Int.tdiv_eq_ediv_of_nonneg (by omega), ← hq, IntKind.wrap_u64]
      have h1 : q < 33554432 := by rw [hq]; exact Int.ediv_lt_of_lt_mul (by omega) (by omega)
      have h2 : 0 ≤ q := by rw [hq]; exact Int.ediv_nonneg (by omega) (by omega)
      omega
    have hq1 : q < 33554432 := by rw [hq]; exact Int.ediv_lt_of_lt_mul (by omega) (by omega)
    have hq2 : 0 ≤ q := by rw [hq]; exact Int.ediv_nonneg (by omega) (by omega)
    have ht0 : q * p + m % p = m := by rw [hq, Int.mul_comm]; exact Int.mul_ediv_add_emod m p
    have ht1 : 0 ≤ m % p := Int.emod_nonneg _ (by omega)
    have ht2 : m % p < p := Int.emod_lt_of_pos _ (by omega)
    have hqp := Int.mul_nonneg hq2 (by omega : 0 ≤ p)
    obtain ⟨t, ht⟩ : ∃ t, t = q * p := ⟨_, rfl⟩
    have e10 : IntKind.u64.wrap (q * p) = t := by rw [ht, IntKind.wrap_u64]; omega
    obtain ⟨rh, hrh⟩ : ∃ rh, m - t = rh := ⟨_, rfl⟩
    have hrh0 : 0 ≤ rh ∧ rh < p := by omega
    have htm : 0 ≤ t ∧ t ≤ m := by omega
    have hst : (hi * 18446744073709551616 + lo) / y ≤ q := by
      rw [hq]
      exact div64_start (b := b) (r := r) (by omega) hy' (by omega) (by omega) (by omega) (by omega) (by omega)
    have hV : m * 4294967296 + b = (hi * 18446744073709551616 + lo) * 65536 := by omega
    have hQ0 : q * p + rh = m := by omega
    have HY := Lib.hid hy'
    have HU := Lib.hid hV
    have HST := Lib.hid hst
    have HQ0 := Lib.hid hQ0
    clear hu hz' hy' hU hr hb hq ht0 ht1 ht2 hqp ht hst hV hQ0
    go_enter Tryd.func124, Tryd.ntmps124
    go_wp2_with fail
    refine HLZ.out.mono ?_
    rintro e w' ⟨rfl, rfl⟩
    go_wp2_with fail
    go_loopw [15, 16] (fun q1 rr wr => q1 = .int .u64 0 ∧ rr = .int .u64 u ∧ Below w'.heap.size w' wr) (fun _ _ _ => 0)
    case atStart => exact ⟨rfl, rfl, Below.refl _ _⟩
    case round =>
      obtain ⟨rfl, rfl, hb1⟩ := hrel
      have HB1 := Lib.hid hb1
      clear hb1
      go_wp2_with fail
      go_loopw [18, 16] (fun v1 v2 wr => Div64Rel hi lo y m p q v1 v2 ∧ Below w'.heap.size w' wr) (fun v1 _ _ => (intOf v1).toNat)
      case atStart => exact ⟨⟨q, rh, rfl, rfl, HQ0.out, hq2, Int.le_refl _, hrh0.1, by omega, HST.out⟩, HB1.out⟩
      case round =>
        obtain ⟨⟨Q, R, rfl, rfl, hQR, hQ0, hQ1, hR0, hR1, hge⟩, hb2⟩ := hrel
        have HB2 := Lib.hid hb2
        have HQR := Lib.hid hQR
        have HGE := Lib.hid hge
        have hQr := div64_prod hQ0 (by omega) hr0
        obtain ⟨X, hX⟩ : ∃ X, X = Q * r := ⟨_, rfl⟩
        rw [← hX] at hQr
        have e11 : IntKind.u64.wrap (Q * r) = X := by rw [← hX, IntKind.wrap_u64]; omega
        have HX := Lib.hid hX
        clear hX hb2 hQR hge
        by_cases ht : 4294967296 * R + b < X
        · have hQ2 : 0 < Q := by
            rcases Int.lt_or_le 0 Q with h | h
            · exact h
            · obtain rfl : Q = 0 := by omega
              have := HX.out
              rw [Int.zero_mul] at this
              omega
          have hd : (hi * 18446744073709551616 + lo) / y ≤ Q - 1 := div64_down (by omega) (div64_lt HU.out HY.out HQR.out (by rw [← HX.out]; exact ht))
          have hQp : (Q - 1) * p + (R + p) = m := by have := HQR.out; rw [Int.sub_mul]; omega
          have HD := Lib.hid hd
          have HQP := Lib.hid hQp
          clear hd hQp
          by_cases hbk : 4294967296 ≤ R + p
          · have hw : IntKind.u64.wrap (R + p) = R + p := by rw [IntKind.wrap_u64]; omega
            go_wp2_with fail
            refine bodyPost_ret (v := .tuple #[.int .u64 (Q - 1), .int .u64 (IntKind.u64.wrap (IntKind.u64.wrap (IntKind.u64.wrap (m * 4294967296) + b) - IntKind.u64.wrap ((Q - 1) * (y * 65536))) / 65536)]) (by simp [results, Tryd.results124, go_sem]) rfl ⟨⟨.int .u64 (IntKind.u64.wrap (IntKind.u64.wrap (IntKind.u64.wrap (m * 4294967296) + b) - IntKind.u64.wrap ((Q - 1) * (y * 65536))) / 65536), ?_⟩, HB2.out⟩
            have h3 := div64_prod (Q := Q - 1) (r := r) (by omega) (by omega) hr0
            rw [div64_eq (by omega) HD.out (div64_le HU.out HY.out HQP.out (by omega))]
          · go_wp2_with fail
            go_roundw
            case rel => exact ⟨⟨Q - 1, R + p, rfl, rfl, HQP.out, by omega, by omega, by omega, by omega, HD.out⟩, HB2.out⟩
            case measure => simp [intOf]; omega
        · go_wp2_with fail
          refine bodyPost_ret (v := .tuple #[.int .u64 Q, .int .u64 (IntKind.u64.wrap (IntKind.u64.wrap (IntKind.u64.wrap (m * 4294967296) + b) - IntKind.u64.wrap (Q * (y * 65536))) / 65536)]) (by simp [results, Tryd.results124, go_sem]) rfl ⟨⟨.int .u64 (IntKind.u64.wrap (IntKind.u64.wrap (IntKind.u64.wrap (m * 4294967296) + b) - IntKind.u64.wrap (Q * (y * 65536))) / 65536), ?_⟩, HB2.out⟩
          rw [div64_eq (by omega) HGE.out (div64_le HU.out HY.out HQR.out (by rw [← HX.out]; omega))]
end Go.Proofs.YtfaggdjoogpmmaaDoor

namespace Go.Proofs.YtfaggdjoogpmmaaDoor
open Go Go.RowKit Go.Shelf

/-- The three highest limbs of a part by the two highest of the divisor. -/
theorem guess_any (ap ad : Option Addr) (ps ds : List Int) (cp cd n : Nat) (w : World) (hp : Row w ap ps cp) (hd : Row w ad ds cd) (hlp : ps.length = n + 2 + 1) (hld : ds.length = n + 2)
    (hlimp : M.Lim ps) (hlimd : M.Lim ds) (htop : 8388608 ≤ M.el ds (n + 1)) :
    Calls Tryd.prog 118 #[.slice ap ps.length cp, .slice ad ds.length cd] w fun e w' =>
      e = .returned (.int .i64 (min ((M.el ps (n + 2) * 281474976710656 + M.el ps (n + 1) * 16777216 + M.el ps n) / (M.el ds (n + 1) * 16777216 + M.el ds n)) 16777215)) ∧ Below w.heap.size w w' := by
  obtain ⟨pb, po, rfl, c2⟩ := hp.el (n + 2) (by omega)
  have c1 := hp.cell (n + 1) (by omega)
  have c0 := hp.cell n (by omega)
  obtain ⟨db, dof, rfl, d1⟩ := hd.el (n + 1) (by omega)
  have d0 := hd.cell n (by omega)
  have b2 := hlimp.get (n + 2)
  have b1 := hlimp.get (n + 1)
  have b0 := hlimp.get n
  have f1 := hlimd.get (n + 1)
  have f0 := hlimd.get n
  have hm := hp.room
  have hm' := hp.most
  have hr := hd.room
  have hr' := hd.most
  generalize hx2 : M.el ps (n + 2) = x2 at *
  generalize hx1 : M.el ps (n + 1) = x1 at *
  generalize hx0 : M.el ps n = x0 at *
  generalize hy1 : M.el ds (n + 1) = y1 at *
  generalize hy0 : M.el ds n = y0 at *
  clear hx2 hx1 hx0 hy1 hy0 hp hd hlimp hlimd
  rw [hlp, hld]
  rw [hlp] at hm
  rw [hld] at hr
  clear hlp hld
  obtain ⟨H, hH⟩ : ∃ H, H = x2 * 16777216 + x1 := ⟨_, rfl⟩
  have e1 : bits BinOp.or IntKind.u64 (x2 * 16777216) x1 = H := by rw [or24u _ _ (by omega) (by omega) (by omega) (by omega), hH]
  obtain ⟨L, hL⟩ : ∃ L, IntKind.u64.wrap (H * 16777216) = L := ⟨_, rfl⟩
  obtain ⟨K, hK⟩ : ∃ K, K = L + x0 := ⟨_, rfl⟩
  have e2 : bits BinOp.or IntKind.u64 L x0 = K := by
    rw [IntKind.wrap_u64] at hL
    rw [show L = (H % 1099511627776) * 16777216 by omega, or24u _ _ (by omega) (by omega) (by omega) (by omega)]
    omega
  obtain ⟨T, hT⟩ : ∃ T, T = y1 * 16777216 + y0 := ⟨_, rfl⟩
  have e3 : bits BinOp.or IntKind.u64 (y1 * 16777216) y0 = T := by rw [or24u _ _ (by omega) (by omega) (by omega) (by omega), hT]
  have hL' : L = (H * 16777216) % 18446744073709551616 := by rw [← hL, IntKind.wrap_u64]
  have hUU : H / 1099511627776 * 18446744073709551616 + K = x2 * 281474976710656 + x1 * 16777216 + x0 := by omega
  have hdv := fun W : World => div64_any (H / 1099511627776) K T W (by omega) (by omega) (by omega) (by omega) (by omega) (by omega)
  rw [← hT, ← hUU]
  obtain ⟨t, ht⟩ : ∃ t, (H / 1099511627776 * 18446744073709551616 + K) / T = t := ⟨_, rfl⟩
  have ht0 : 0 ≤ t ∧ t < 33554432 := by
    rw [← ht]
    exact ⟨Int.ediv_nonneg (by omega) (by omega), Int.ediv_lt_of_lt_mul (by omega) (by omega)⟩
  rw [ht] at hdv
  rw [ht]
  have HDV := Lib.hid hdv
  clear ht hdv hUU hT hL' hK hH
  go_enter Tryd.func118, Tryd.ntmps118
  go_wp2_with fail
  go_quiet (fail)
  go_wp2_with fail
  go_quiet (fail)
  go_wp2_with fail
  refine (HDV.out _).mono ?_
  rintro e w1 ⟨⟨r, rfl⟩, hb1⟩
  have HB1 := Lib.hid hb1
  clear hb1
  go_wp2_with fail
  go_ret
  exact ⟨rfl, (belowN (Below.refl _ w) _).trans HB1.out⟩
end Go.Proofs.YtfaggdjoogpmmaaDoor

namespace Go.Proofs.YtfaggdjoogpmmaaDoor.M

theorem val_three (ps : List Int) (n : Nat) (h : ps.length = n + 2 + 1) : val ps = (el ps (n + 2) * 281474976710656 + el ps (n + 1) * 16777216 + el ps n) * 16777216 ^ n + val (ps.take n) := by
  have h1 := val_take_succ ps n (by omega)
  have h2 := val_take_succ ps (n + 1) (by omega)
  have h3 := val_take_succ ps (n + 2) (by omega)
  rw [List.take_of_length_le (by omega)] at h3
  have q2 : (16777216 : Int) ^ (n + 2) = 16777216 ^ n * 281474976710656 := by rw [Int.pow_succ, Int.pow_succ, Int.mul_assoc]; rfl
  have q1 : (16777216 : Int) ^ (n + 1) = 16777216 ^ n * 16777216 := Int.pow_succ ..
  rw [h3, h2, h1, q2, q1]
  clear h1 h2 h3 q1 q2 h
  generalize (16777216 : Int) ^ n = K
  generalize el ps n = a
  generalize el ps (n + 1) = b
  generalize el ps (n + 2) = c
  grind
theorem val_two (ds : List Int) (n : Nat) (h : ds.length = n + 2) : val ds = (el ds (n + 1) * 16777216 + el ds n) * 16777216 ^ n + val (ds.take n) := by
  have h1 := val_take_succ ds n (by omega)
  have h2 := val_take_succ ds (n + 1) (by omega)
  rw [List.take_of_length_le (by omega)] at h2
  have q1 : (16777216 : Int) ^ (n + 1) = 16777216 ^ n * 16777216 := Int.pow_succ ..
  rw [h2, h1, q1]
  clear h1 h2 q1 h
  generalize (16777216 : Int) ^ n = K
  generalize el ds n = a
  generalize el ds (n + 1) = b
  grind

theorem val_pos_top {ds : List Int} {n : Nat} (hl : ds.length = n + 2) (hd : Lim ds) (htop : 8388608 ≤ el ds (n + 1)) : 0 < val ds := by
  have h := val_two ds n hl
  have h1 := val_nonneg (hd.take n)
  have h2 := hd.get n
  have h3 := pow_pos n
  have := Int.mul_pos (show 0 < el ds (n + 1) * 16777216 + el ds n by omega) h3
  omega

theorem guess_int {ps ds : List Int} {n : Nat} (hlp : ps.length = n + 2 + 1) (hld : ds.length = n + 2) (hp : Lim ps) (hd : Lim ds) (htop : 8388608 ≤ el ds (n + 1)) (hlt : val ps < val ds * 16777216) :
    val ps / val ds ≤ min ((el ps (n + 2) * 281474976710656 + el ps (n + 1) * 16777216 + el ps n) / (el ds (n + 1) * 16777216 + el ds n)) 16777215 ∧
    min ((el ps (n + 2) * 281474976710656 + el ps (n + 1) * 16777216 + el ps n) / (el ds (n + 1) * 16777216 + el ds n)) 16777215 ≤ val ps / val ds + 1 ∧
    0 ≤ min ((el ps (n + 2) * 281474976710656 + el ps (n + 1) * 16777216 + el ps n) / (el ds (n + 1) * 16777216 + el ds n)) 16777215 := by
  have b2 := hp.get (n + 2)
  have b1 := hp.get (n + 1)
  have b0 := hp.get n
  have f1 := hd.get (n + 1)
  have f0 := hd.get n
  have e1 := val_three ps n hlp
  have e2 := val_two ds n hld
  have l1 := val_lt (hp.take n)
  have l2 := val_lt (hd.take n)
  have m1 := val_nonneg (hp.take n)
  have m2 := val_nonneg (hd.take n)
  have n1 := val_nonneg hp
  have n2 := val_nonneg hd
  rw [List.length_take, Nat.min_eq_left (by omega)] at l1 l2
  generalize hP3 : el ps (n + 2) * 281474976710656 + el ps (n + 1) * 16777216 + el ps n = P3 at *
  generalize hD2 : el ds (n + 1) * 16777216 + el ds n = D2 at *
  generalize val (ps.take n) = p at *
  generalize val (ds.take n) = d at *
  generalize val ps = P at *
  generalize val ds = D at *
  obtain ⟨P3', rfl⟩ := Int.eq_ofNat_of_zero_le (show 0 ≤ P3 by omega)
  obtain ⟨D2', rfl⟩ := Int.eq_ofNat_of_zero_le (show 0 ≤ D2 by omega)
  obtain ⟨p', rfl⟩ := Int.eq_ofNat_of_zero_le m1
  obtain ⟨d', rfl⟩ := Int.eq_ofNat_of_zero_le m2
  obtain ⟨P', rfl⟩ := Int.eq_ofNat_of_zero_le n1
  obtain ⟨D', rfl⟩ := Int.eq_ofNat_of_zero_le n2
  rw [← pow_cast] at e1 e2 l1 l2
  have k := guess_ok (P := P') (D := D') (K := 16777216 ^ n) (P3 := P3') (D2 := D2') (p := p') (d := d') (Nat.pow_pos (by decide)) (by exact_mod_cast e1) (by exact_mod_cast l1) (by exact_mod_cast e2) (by exact_mod_cast l2) (by omega) (by omega)
  rw [← Int.natCast_ediv, ← Int.natCast_ediv]
  revert k
  generalize P3' / D2' = x
  generalize P' / D' = y
  intro k
  omega

/-- What is left when the quotient, or one more, was taken out. -/
theorem take_zero {P D q : Int} (hD : 0 < D) (h : q = P / D) : 0 ≤ P + -q * D ∧ P + -q * D < D ∧ P + -q * D = P % D := by
  have h1 := Int.mul_ediv_add_emod P D
  have h2 := Int.emod_nonneg P (show D ≠ 0 by omega)
  have h3 := Int.emod_lt_of_pos P hD
  have h4 : -q * D = -(D * (P / D)) := by rw [h, Int.neg_mul, Int.mul_comm]
  omega
theorem take_one {P D q : Int} (hD : 0 < D) (h : q = P / D + 1) : P + -q * D < 0 ∧ -D ≤ P + -q * D ∧ P + -q * D + D = P % D := by
  have h1 := Int.mul_ediv_add_emod P D
  have h2 := Int.emod_nonneg P (show D ≠ 0 by omega)
  have h3 := Int.emod_lt_of_pos P hD
  have h4 : -q * D = -(D * (P / D)) - D := by rw [h, Int.neg_mul, Int.add_mul, Int.mul_comm (P / D)]; omega
  omega
end Go.Proofs.YtfaggdjoogpmmaaDoor.M
