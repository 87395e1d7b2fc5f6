/- Plain arithmetic: decimal digits as bytes. No program is named here. -/
namespace Go.Proofs.YtamniclnhenmgaaDoor
namespace M
/-- The k lowest digits of g, lowest first, as bytes. -/
def dg : Nat → Nat → List Nat
  | 0, _ => []
  | k + 1, g => (48 + g % 10) :: dg k (g / 10)
theorem dg_len (k g : Nat) : (dg k g).length = k := by
  induction k generalizing g with
  | zero => rfl
  | succ k ih => simp [dg, ih]
theorem dg_add (a b g : Nat) : dg (a + b) g = dg a g ++ dg b (g / 10 ^ a) := by
  induction a generalizing g with
  | zero => simp [dg]
  | succ a ih =>
    rw [show a + 1 + b = (a + b) + 1 from by omega]
    simp only [dg, List.cons_append, ih]
    rw [Nat.div_div_eq_div_mul, Nat.pow_succ, Nat.mul_comm (10 ^ a) 10]
theorem dg_mod (a g : Nat) : dg a (g % 10 ^ a) = dg a g := by
  induction a generalizing g with
  | zero => rfl
  | succ a ih =>
    simp only [dg]
    have e1 : g % 10 ^ (a + 1) % 10 = g % 10 := by rw [Nat.pow_succ, Nat.mul_comm]; exact Nat.mod_mul_right_mod g 10 (10 ^ a)
    have e2 : g % 10 ^ (a + 1) / 10 = g / 10 % 10 ^ a := by rw [Nat.pow_succ, Nat.mul_comm]; exact Nat.mod_mul_right_div_self g 10 (10 ^ a)
    rw [e1, e2, ih]
theorem dg_snoc (k g : Nat) : dg (k + 1) g = dg k g ++ [48 + g / 10 ^ k % 10] := by rw [dg_add]; rfl
theorem dg_zero (k : Nat) : dg k 0 = List.replicate k 48 := by
  induction k with
  | zero => rfl
  | succ k ih => simp [dg, ih, List.replicate_succ]
theorem dg_byte (k g : Nat) : ∀ b ∈ dg k g, 48 ≤ b ∧ b ≤ 57 := by
  induction k generalizing g with
  | zero => intro b h; cases h
  | succ k ih =>
    intro b h
    simp only [dg, List.mem_cons] at h
    rcases h with h | h
    · omega
    · exact ih _ b h
/-- The digits of n, highest first, without leading zeros, taken from its k lowest digits. -/
def decs (k n : Nat) : List Nat := (dg k n).reverse.dropWhile (· == 48)
theorem decs_more (k d n : Nat) (h : n < 10 ^ k) : decs (k + d) n = decs k n := by
  unfold decs
  rw [dg_add, Nat.div_eq_of_lt h, dg_zero, List.reverse_append, List.reverse_replicate]
  induction d with
  | zero => simp
  | succ d ih => rw [List.replicate_succ, List.cons_append, List.dropWhile_cons_of_pos rfl, ih]
theorem decs_any {k j n : Nat} (hk : n < 10 ^ k) (hj : n < 10 ^ j) : decs k n = decs j n := by
  rcases Nat.le_total k j with h | h
  · obtain ⟨d, rfl⟩ : ∃ d, j = k + d := ⟨j - k, by omega⟩
    exact (decs_more k d n hk).symm
  · obtain ⟨d, rfl⟩ : ∃ d, k = j + d := ⟨k - j, by omega⟩
    exact decs_more j d n hj
end M
end Go.Proofs.YtamniclnhenmgaaDoor
