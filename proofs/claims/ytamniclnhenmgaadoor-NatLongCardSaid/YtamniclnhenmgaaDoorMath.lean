/- Plain arithmetic of limbs: lists of integers from 0 to 2^24 - 1, lowest first, and their values. No program is named here. -/
namespace Go.Proofs.YtamniclnhenmgaaDoor
namespace M

/-- Element k of a list, 0 behind its end. -/
def el (zs : List Int) (k : Nat) : Int := zs[k]?.getD 0
@[simp] theorem el_nil (k : Nat) : el [] k = 0 := rfl
@[simp] theorem el_zero (z : Int) (zs : List Int) : el (z :: zs) 0 = z := rfl
@[simp] theorem el_succ (z : Int) (zs : List Int) (k : Nat) : el (z :: zs) (k + 1) = el zs k := rfl
theorem el_lt {zs : List Int} {k : Nat} (h : k < zs.length) : el zs k = zs[k] := by unfold el; rw [List.getElem?_eq_getElem h]; rfl
theorem el_ge {zs : List Int} {k : Nat} (h : zs.length ≤ k) : el zs k = 0 := by unfold el; rw [List.getElem?_eq_none h]; rfl
theorem el_append_left {a b : List Int} {k : Nat} (h : k < a.length) : el (a ++ b) k = el a k := by unfold el; rw [List.getElem?_append_left h]
theorem el_append_right {a b : List Int} {k : Nat} (h : a.length ≤ k) : el (a ++ b) k = el b (k - a.length) := by unfold el; rw [List.getElem?_append_right h]
theorem el_take {zs : List Int} {k n : Nat} (h : k < n) : el (zs.take n) k = el zs k := by unfold el; rw [List.getElem?_take_of_lt h]
theorem el_drop (zs : List Int) (k n : Nat) : el (zs.drop n) k = el zs (n + k) := by unfold el; rw [List.getElem?_drop]
theorem el_set (zs : List Int) (i : Nat) (v : Int) (k : Nat) (h : i < zs.length) : el (zs.set i v) k = if i = k then v else el zs k := by
  unfold el; rw [List.getElem?_set]; split
  · rename_i e; subst e; simp
  · rfl
theorem ext_el {a b : List Int} (hl : a.length = b.length) (h : ∀ k, k < a.length → el a k = el b k) : a = b :=
  List.ext_getElem hl fun i h1 h2 => by have := h i h1; rwa [el_lt h1, el_lt h2] at this

theorem el_replicate (n k : Nat) : el (List.replicate n 0) k = 0 := by
  unfold el; rw [List.getElem?_replicate]; split <;> rfl

/-- The value of limbs. -/
def val : List Int → Int
  | [] => 0
  | z :: zs => z + 16777216 * val zs

/-- Each limb is from 0 to 2^24 - 1. -/
def Lim (zs : List Int) : Prop := ∀ z ∈ zs, 0 ≤ z ∧ z < 16777216

/-- The limbs without the zeros at their end. -/
def trimL : List Int → List Int
  | [] => []
  | z :: zs => if trimL zs = [] ∧ z = 0 then [] else z :: trimL zs

/-- The one list of limbs of a natural number. -/
def dig (n : Nat) : List Int :=
  if h : n = 0 then [] else ((n % 16777216 : Nat) : Int) :: dig (n / 16777216)
termination_by n
decreasing_by omega

theorem dig_zero : dig 0 = [] := by rw [dig]; simp
theorem dig_pos {n : Nat} (h : n ≠ 0) : dig n = ((n % 16777216 : Nat) : Int) :: dig (n / 16777216) := by
  rw [dig]; simp [h]
theorem dig_nil {n : Nat} : dig n = [] ↔ n = 0 := by
  constructor
  · intro h
    by_cases e : n = 0
    · exact e
    · rw [dig_pos e] at h; cases h
  · intro h; subst h; exact dig_zero

theorem Lim.nil : Lim [] := fun _ h => by cases h
theorem Lim.cons {z : Int} {zs : List Int} (h0 : 0 ≤ z) (h1 : z < 16777216) (h : Lim zs) : Lim (z :: zs) := by
  intro y hy
  cases hy with
  | head => exact ⟨h0, h1⟩
  | tail _ hy => exact h y hy
theorem Lim.head {z : Int} {zs : List Int} (h : Lim (z :: zs)) : 0 ≤ z ∧ z < 16777216 := h z (List.mem_cons_self ..)
theorem Lim.tail {z : Int} {zs : List Int} (h : Lim (z :: zs)) : Lim zs := fun y hy => h y (List.mem_cons_of_mem _ hy)
theorem Lim.append {a b : List Int} (ha : Lim a) (hb : Lim b) : Lim (a ++ b) := fun y hy => by
  rcases List.mem_append.1 hy with h | h
  · exact ha y h
  · exact hb y h
theorem Lim.get {zs : List Int} (h : Lim zs) (i : Nat) : 0 ≤ el zs i ∧ el zs i < 16777216 := by
  by_cases hi : i < zs.length
  · rw [el_lt hi]; exact h _ (List.getElem_mem hi)
  · rw [el_ge (by omega)]; simp
theorem Lim.take {zs : List Int} (h : Lim zs) (k : Nat) : Lim (zs.take k) := fun y hy => h y (List.mem_of_mem_take hy)
theorem Lim.drop {zs : List Int} (h : Lim zs) (k : Nat) : Lim (zs.drop k) := fun y hy => h y (List.mem_of_mem_drop hy)
theorem lim_of_get {zs : List Int} (h : ∀ i, i < zs.length → 0 ≤ el zs i ∧ el zs i < 16777216) : Lim zs := fun y hy => by
  obtain ⟨i, hi, rfl⟩ := List.mem_iff_getElem.1 hy
  have := h i hi
  rw [el_lt hi] at this
  exact this

theorem val_nonneg {zs : List Int} (h : Lim zs) : 0 ≤ val zs := by
  induction zs with
  | nil => simp [val]
  | cons z zs ih => have := ih h.tail; have := h.head; simp only [val]; omega

theorem lim_dig (n : Nat) : Lim (dig n) := by
  induction n using Nat.strongRecOn with
  | ind n ih =>
    by_cases e : n = 0
    · subst e; rw [dig_zero]; exact Lim.nil
    · rw [dig_pos e]; exact Lim.cons (by omega) (by omega) (ih _ (by omega))

theorem val_dig (n : Nat) : val (dig n) = n := by
  induction n using Nat.strongRecOn with
  | ind n ih =>
    by_cases e : n = 0
    · subst e; rw [dig_zero]; rfl
    · rw [dig_pos e, val, ih _ (by omega)]; omega

theorem trimL_eq_nil {zs : List Int} (h : Lim zs) : trimL zs = [] ↔ val zs = 0 := by
  induction zs with
  | nil => simp [trimL, val]
  | cons z zs ih =>
    have i := ih h.tail
    have := val_nonneg h.tail
    have := h.head
    simp only [trimL, val]
    constructor
    · intro e
      split at e
      · rename_i h'; have := i.1 h'.1; omega
      · cases e
    · intro e
      rw [if_pos ⟨i.2 (by omega), by omega⟩]

/-- Trimmed limbs are the limbs of the value. -/
theorem trimL_dig {zs : List Int} (h : Lim zs) : trimL zs = dig (val zs).toNat := by
  induction zs with
  | nil => simp [trimL, val, dig_zero]
  | cons z zs ih =>
    have i := ih h.tail
    have h0 := val_nonneg h.tail
    have hz := h.head
    by_cases e : val (z :: zs) = 0
    · rw [(trimL_eq_nil h).2 e, e]; simp [dig_zero]
    · have hne : (val (z :: zs)).toNat ≠ 0 := by have := val_nonneg h; omega
      rw [dig_pos hne]
      simp only [trimL, val] at *
      rw [if_neg (by rintro ⟨h1, h2⟩; rw [trimL_eq_nil h.tail] at h1; omega), i]
      congr 1
      · omega
      · congr 1; omega

theorem trimL_len (zs : List Int) : (trimL zs).length ≤ zs.length := by
  induction zs with
  | nil => simp [trimL]
  | cons z zs ih => simp only [trimL]; split <;> simp <;> omega

theorem trimL_take (zs : List Int) : zs.take (trimL zs).length = trimL zs := by
  induction zs with
  | nil => simp [trimL]
  | cons z zs ih => simp only [trimL]; split <;> simp [ih]

theorem trimL_idem (zs : List Int) : trimL (trimL zs) = trimL zs := by
  induction zs with
  | nil => simp [trimL]
  | cons z zs ih =>
    simp only [trimL]
    split
    · simp [trimL]
    · rename_i h; simp only [trimL, ih]; rw [if_neg h]

/-- Limbs whose last one is not 0 are those of their value. -/
theorem trimL_last {zs : List Int} (h : zs = [] ∨ zs.getLast? ≠ some 0) : trimL zs = zs := by
  induction zs with
  | nil => rfl
  | cons z zs ih =>
    rcases h with h | h
    · cases h
    · simp only [trimL]
      by_cases e : zs = []
      · subst e; simp at h; simp [trimL, h]
      · have hz : zs.getLast? ≠ some 0 := by
          intro hh; apply h
          cases zs with
          | nil => exact absurd rfl e
          | cons y ys => simpa [List.getLast?_cons_cons] using hh
        rw [ih (.inr hz), if_neg (by rintro ⟨h1, _⟩; exact e h1)]

/-- Behind the trimmed limbs there are zeros alone. -/
theorem trimL_zero (zs : List Int) : ∀ i : Nat, (trimL zs).length ≤ i → el zs i = 0 := by
  induction zs with
  | nil => simp
  | cons z zs ih =>
    intro i hi
    simp only [trimL] at hi
    split at hi
    · rename_i h
      have h1 : (trimL zs).length = 0 := by rw [h.1]; rfl
      cases i with
      | zero => simp [h.2]
      | succ i => rw [el_succ]; exact ih i (by omega)
    · cases i with
      | zero => simp at hi
      | succ i => rw [el_succ]; exact ih i (by simp at hi; omega)

theorem trimL_at (zs : List Int) (k : Nat) (hk : el zs k ≠ 0) (hz : ∀ i, k < i → el zs i = 0) : (trimL zs).length = k + 1 := by
  induction zs generalizing k with
  | nil => simp at hk
  | cons z zs ih =>
    simp only [trimL]
    cases k with
    | zero =>
      simp at hk
      have : trimL zs = [] := by
        have hall : ∀ i : Nat, el zs i = 0 := fun i => by have := hz (i + 1) (by omega); simpa using this
        clear ih hz hk
        induction zs with
        | nil => rfl
        | cons y ys ih2 =>
          have h0 := hall 0
          simp at h0
          simp only [trimL]
          rw [if_pos ⟨ih2 (fun i => by have := hall (i + 1); simpa using this), h0⟩]
      rw [if_neg (by rintro ⟨_, h2⟩; exact hk h2), this]; rfl
    | succ k =>
      have h2 := ih k (by simpa using hk) (fun i hi => by have := hz (i + 1) (by omega); simpa using this)
      rw [if_neg (by rintro ⟨h1, _⟩; rw [h1] at h2; simp at h2)]
      simp [h2]

theorem trimL_none (zs : List Int) (hz : ∀ i : Nat, el zs i = 0) : trimL zs = [] := by
  induction zs with
  | nil => rfl
  | cons y ys ih2 =>
    have h0 := hz 0
    simp at h0
    simp only [trimL]
    rw [if_pos ⟨ih2 (fun i => by have := hz (i + 1); simpa using this), h0⟩]

theorem val_append (a b : List Int) : val (a ++ b) = val a + 16777216 ^ a.length * val b := by
  induction a with
  | nil => simp [val]
  | cons z zs ih =>
    simp only [List.cons_append, val, ih, List.length_cons, Int.pow_succ]
    rw [Int.mul_add, Int.mul_comm (16777216 ^ zs.length) 16777216, Int.mul_assoc]; omega

theorem val_lt {zs : List Int} (h : Lim zs) : val zs < 16777216 ^ zs.length := by
  induction zs with
  | nil => simp [val]
  | cons z zs ih =>
    have := ih h.tail
    have := h.head
    simp only [val, List.length_cons, Int.pow_succ]
    omega

theorem dig_len_le {n k : Nat} : (dig n).length ≤ k ↔ n < 16777216 ^ k := by
  induction k generalizing n with
  | zero =>
    simp [dig_nil]
  | succ k ih =>
    by_cases e : n = 0
    · subst e; simp [dig_zero]; exact Nat.pow_pos (by omega)
    · rw [dig_pos e]
      simp only [List.length_cons, Nat.add_le_add_iff_right, ih, Nat.pow_succ]
      omega

theorem dig_last {n : Nat} (h : n ≠ 0) : (dig n).getLast? ≠ some 0 := by
  induction n using Nat.strongRecOn with
  | ind n ih =>
    rw [dig_pos h]
    by_cases e : n / 16777216 = 0
    · rw [e, dig_zero]; simp; omega
    · have := ih (n / 16777216) (by omega) e
      rw [dig_pos e] at this ⊢
      simpa [List.getLast?_cons_cons] using this

theorem trimL_of_dig (n : Nat) : trimL (dig n) = dig n := by
  rw [trimL_dig (lim_dig n), val_dig]; simp

theorem dig_inj {a b : Nat} (h : dig a = dig b) : a = b := by
  have := congrArg val h
  rw [val_dig, val_dig] at this; omega

theorem val_take_succ (zs : List Int) (k : Nat) (hk : k < zs.length) : val (zs.take (k + 1)) = val (zs.take k) + 16777216 ^ k * (el zs k) := by
  rw [List.take_succ_eq_append_getElem hk, val_append]
  simp only [val, List.length_take, Nat.min_eq_left (by omega : k ≤ zs.length), el_lt hk, Int.mul_zero, Int.add_zero]

theorem val_take_succ' (zs : List Int) (k : Nat) : val (zs.take (k + 1)) = val (zs.take k) + 16777216 ^ k * el zs k := by
  by_cases h : k < zs.length
  · exact val_take_succ zs k h
  · rw [List.take_of_length_le (by omega), List.take_of_length_le (by omega), el_ge (by omega)]; simp

theorem take_set_succ (zs : List Int) (k : Nat) (u : Int) (h : k < zs.length) : (zs.set k u).take (k + 1) = zs.take k ++ [u] := by
  rw [List.take_succ_eq_append_getElem (by simpa using h), List.getElem_set_self, List.take_set_of_le (Nat.le_refl _)]

theorem val_set_succ (zs : List Int) (k : Nat) (u : Int) (h : k < zs.length) : val ((zs.set k u).take (k + 1)) = val (zs.take k) + 16777216 ^ k * u := by
  rw [take_set_succ zs k u h, val_append]
  simp [val, Nat.min_eq_left (Nat.le_of_lt h)]

theorem Lim.set {zs : List Int} (h : Lim zs) (k : Nat) {u : Int} (h0 : 0 ≤ u) (h1 : u < 16777216) : Lim (zs.set k u) := fun y hy => by
  rcases List.mem_or_eq_of_mem_set hy with h' | h'
  · exact h y h'
  · subst h'; exact ⟨h0, h1⟩

theorem Lim.replicate (n : Nat) : Lim (List.replicate n 0) := fun y hy => by
  have := List.eq_of_mem_replicate hy; subst this; omega

theorem pow_split (P c : Int) : P * (c % 16777216) + P * 16777216 * (c / 16777216) = P * c := by
  rw [Int.mul_assoc, ← Int.mul_add, Int.emod_add_mul_ediv]

theorem pow_pos (k : Nat) : (0 : Int) < 16777216 ^ k := Int.pow_pos (by decide)

/-- One step of an addition: u and c' are what is written and what is carried on. -/
theorem add_step {P V c s t A B : Int} (h : V + P * c = A + B) : (V + P * ((c + (s + t)) % 16777216)) + P * 16777216 * ((c + (s + t)) / 16777216) = (A + P * s) + (B + P * t) := by
  have := pow_split P (c + (s + t))
  rw [Int.add_assoc, this, Int.mul_add, Int.mul_add]; omega

theorem val_replicate (n : Nat) : val (List.replicate n 0) = 0 := by
  induction n with
  | zero => rfl
  | succ n ih => rw [List.replicate_succ, val, ih]; rfl

theorem pow_cast (k : Nat) : ((16777216 ^ k : Nat) : Int) = 16777216 ^ k := Int.natCast_pow 16777216 k
theorem pow_mono {a b : Nat} (h : a ≤ b) : (16777216 : Int) ^ a ≤ 16777216 ^ b := by
  rw [← pow_cast, ← pow_cast]; exact Int.ofNat_le.2 (Nat.pow_le_pow_right (by omega) h)
theorem val_le_of_len {zs : List Int} (h : Lim zs) {n : Nat} (hn : zs.length ≤ n) : val zs < 16777216 ^ n :=
  Int.lt_of_lt_of_le (val_lt h) (pow_mono hn)

/-- The end of an addition. -/
theorem add_end {zs : List Int} {x y n : Nat} {c : Int} (hz : Lim zs) (hx : (dig x).length ≤ n) (hy : (dig y).length ≤ n) (hc : 0 ≤ c) (h : val zs + 16777216 ^ (n + 1) * c = x + y) : trimL zs = dig (x + y) := by
  have h1 := val_le_of_len (lim_dig x) hx
  have h2 := val_le_of_len (lim_dig y) hy
  rw [val_dig] at h1 h2
  have h0 := val_nonneg hz
  have hp := pow_pos n
  have e : c = 0 := by
    by_cases h3 : c = 0
    · exact h3
    · have : 16777216 ^ (n + 1) * 1 ≤ (16777216 : Int) ^ (n + 1) * c := Int.mul_le_mul_of_nonneg_left (by omega) (by have := pow_pos (n + 1); omega)
      rw [Int.pow_succ] at this h
      omega
  subst e
  rw [trimL_dig hz]
  congr 1
  omega

theorem val_set (zs : List Int) (k : Nat) (u : Int) (h : k < zs.length) : val (zs.set k u) = val zs + 16777216 ^ k * (u - el zs k) := by
  induction zs generalizing k with
  | nil => simp at h
  | cons z zs ih =>
    cases k with
    | zero => simp only [List.set_cons_zero, val, el_zero, Int.pow_zero]; omega
    | succ k =>
      simp only [List.set_cons_succ, val, el_succ, Int.pow_succ]
      rw [ih k (by simpa using h), Int.mul_add, Int.mul_comm (16777216 ^ k) 16777216, Int.mul_assoc]; omega

/-- One step of a product: t is what is to be written and carried on at place i + j. -/
theorem mul_step {V P Pi Pj c e a b q t : Int} (hP : P = Pi * Pj) (h : V + P * c = q + Pi * (a * t)) :
    (V + P * ((c + (e + a * b)) % 16777216 - e)) + P * 16777216 * ((c + (e + a * b)) / 16777216) = q + Pi * (a * (t + Pj * b)) := by
  have h1 := pow_split P (c + (e + a * b))
  have h2 : P * ((c + (e + a * b)) % 16777216 - e) = P * ((c + (e + a * b)) % 16777216) - P * e := Int.mul_sub ..
  have h3 : P * (c + (e + a * b)) = P * c + P * e + P * (a * b) := by rw [Int.mul_add, Int.mul_add]; omega
  have h4 : Pi * (a * (t + Pj * b)) = Pi * (a * t) + P * (a * b) := by
    rw [hP, Int.mul_add, Int.mul_add, Int.mul_assoc Pi Pj, Int.mul_left_comm Pj a b]
  omega

theorem mul_bound {a b : Int} (ha : 0 ≤ a ∧ a < 16777216) (hb : 0 ≤ b ∧ b < 16777216) : 0 ≤ a * b ∧ a * b ≤ 281474943156225 := by
  refine ⟨Int.mul_nonneg ha.1 hb.1, ?_⟩
  have := Int.mul_le_mul (a := a) (b := b) (c := 16777215) (d := 16777215) (by omega) (by omega) hb.1 (by decide)
  omega

theorem mul_row {V P q A Pk e y : Int} (h : V + P * q = A * y + Pk * (e * y)) : V + P * (q - 0) = (A + Pk * e) * y := by
  rw [Int.sub_zero, Int.add_mul, Int.mul_assoc, h]

/-- The end of a product. -/
theorem mul_end {zs : List Int} {x y : Nat} (hz : Lim zs) (h : val zs = x * y) : trimL zs = dig (x * y) := by
  rw [trimL_dig hz, h]; congr 1

/-- A division by a small number: the rest and the limbs of the quotient. -/
def shr (d : Int) : List Int → Int × List Int
  | [] => (0, [])
  | z :: zs => (((shr d zs).1 * 16777216 + z) % d, ((shr d zs).1 * 16777216 + z) / d :: (shr d zs).2)

theorem shr_len (d : Int) (zs : List Int) : (shr d zs).2.length = zs.length := by
  induction zs with
  | nil => rfl
  | cons z zs ih => simp [shr, ih]

theorem shr_rest (d : Int) (hd : 0 < d) (zs : List Int) : 0 ≤ (shr d zs).1 ∧ (shr d zs).1 < d := by
  cases zs with
  | nil => exact ⟨Int.le_refl _, hd⟩
  | cons z zs => exact ⟨Int.emod_nonneg _ (by omega), Int.emod_lt_of_pos _ hd⟩

theorem shr_val (d : Int) (zs : List Int) : val (shr d zs).2 * d + (shr d zs).1 = val zs := by
  induction zs with
  | nil => simp [shr, val]
  | cons z zs ih =>
    simp only [shr, val]
    have h := Int.mul_ediv_add_emod ((shr d zs).1 * 16777216 + z) d
    rw [Int.add_mul, Int.mul_assoc, Int.mul_comm (_ / d) d, ← ih]
    omega

theorem shr_lim (d : Int) (hd : 0 < d) {zs : List Int} (h : Lim zs) : Lim (shr d zs).2 := by
  induction zs with
  | nil => exact Lim.nil
  | cons z zs ih =>
    have hr := shr_rest d hd zs
    have hz := h.head
    refine Lim.cons ?_ ?_ (ih h.tail)
    · exact Int.ediv_nonneg (by omega) (by omega)
    · exact Int.ediv_lt_of_lt_mul hd (by have : ((shr d zs).1 + 1) * 16777216 ≤ d * 16777216 := Int.mul_le_mul_of_nonneg_right (by omega) (by decide)
                                         rw [Int.mul_comm 16777216 d]; omega)

theorem shr_nat {zs : List Int} {d : Nat} (hd : 0 < d) {n : Nat} (h : Lim zs) (hv : val zs = n) : trimL (shr d zs).2 = dig (n / d) ∧ (shr d zs).1 = ((n % d : Nat) : Int) := by
  have h1 := shr_val d zs
  have h2 := shr_rest d (by omega) zs
  have h3 := val_nonneg (shr_lim (d : Int) (by omega) h)
  obtain ⟨q, hq⟩ := Int.eq_ofNat_of_zero_le h3
  obtain ⟨r, hr⟩ := Int.eq_ofNat_of_zero_le h2.1
  rw [hq, hr, hv] at h1
  have h4 : q * d + r = n := by have : ((q * d + r : Nat) : Int) = (n : Int) := by rw [Int.natCast_add, Int.natCast_mul]; exact h1
                                omega
  have h5 : r < d := by rw [hr] at h2; omega
  have e1 : n / d = q := by rw [← h4, Nat.mul_comm q d, Nat.mul_add_div hd, Nat.div_eq_of_lt h5]; omega
  have e2 : n % d = r := by rw [← h4, Nat.mul_comm q d, Nat.mul_add_mod, Nat.mod_eq_of_lt h5]
  rw [trimL_dig (shr_lim (d : Int) (by omega) h), hq, hr, e1, e2]
  exact ⟨by simp, rfl⟩

theorem drop_el (zs : List Int) (k : Nat) (h : k < zs.length) : zs.drop k = el zs k :: zs.drop (k + 1) := by
  rw [List.drop_eq_getElem_cons h, el_lt h]

/-- The limbs while those from k on have been divided. -/
def shrAt (d : Int) (zs : List Int) (k : Nat) : List Int := zs.take k ++ (shr d (zs.drop k)).2
theorem shrAt_len (d : Int) (zs : List Int) (k : Nat) : (shrAt d zs k).length = zs.length := by
  unfold shrAt; rw [List.length_append, shr_len, List.length_take, List.length_drop]; omega
theorem shrAt_el (d : Int) (zs : List Int) (k : Nat) (j : Nat) (h : j < k) (hj : j < zs.length) : el (shrAt d zs k) j = el zs j := by
  unfold shrAt; rw [el_append_left (by rw [List.length_take]; omega), el_take h]
theorem shrAt_set (d : Int) (zs : List Int) (k : Nat) (h : k < zs.length) : (shrAt d zs (k + 1)).set k (((shr d (zs.drop (k + 1))).1 * 16777216 + el zs k) / d) = shrAt d zs k := by
  unfold shrAt
  rw [drop_el zs k h, List.take_succ_eq_append_getElem h, List.append_assoc, List.set_append_right _ _ (by rw [List.length_take]; omega)]
  have : k - (zs.take k).length = 0 := by rw [List.length_take]; omega
  rw [this]
  rfl
theorem shrAt_zero (d : Int) (zs : List Int) : shrAt d zs 0 = (shr d zs).2 := rfl
theorem shrAt_all (d : Int) (zs : List Int) : shrAt d zs zs.length = zs := by
  unfold shrAt; rw [List.take_length, List.drop_length]; simp [shr]
theorem shr_drop (d : Int) (zs : List Int) (k : Nat) (h : k < zs.length) : (shr d (zs.drop k)).1 = ((shr d (zs.drop (k + 1))).1 * 16777216 + el zs k) % d := by
  rw [drop_el zs k h]; rfl

end M
end Go.Proofs.YtamniclnhenmgaaDoor
