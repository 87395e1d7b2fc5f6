/- Plain arithmetic: the numbers of sets of k out of n things. No program is named here. -/
namespace Go.Proofs.YtamniclnhenmgaaDoor
namespace M
/-- The number of sets of k out of n things. -/
def ch : Nat → Nat → Nat
  | _, 0 => 1
  | 0, _ + 1 => 0
  | n + 1, k + 1 => ch n k + ch n (k + 1)

theorem ch_zero (n : Nat) : ch n 0 = 1 := by cases n <;> rfl
theorem ch_succ (n k : Nat) : ch (n + 1) (k + 1) = ch n k + ch n (k + 1) := rfl
theorem ch_zero_succ (k : Nat) : ch 0 (k + 1) = 0 := rfl
theorem ch_gt : ∀ (n k : Nat), n < k → ch n k = 0
  | n, 0, h => by omega
  | 0, k + 1, _ => rfl
  | n + 1, k + 1, h => by rw [ch_succ, ch_gt n k (by omega), ch_gt n (k + 1) (by omega)]
theorem ch_self : ∀ n : Nat, ch n n = 1
  | 0 => rfl
  | n + 1 => by rw [ch_succ, ch_self n, ch_gt n (n + 1) (by omega)]
theorem ch_step (n : Nat) : ∀ k, (k + 1) * ch (n + 1) (k + 1) = (n + 1) * ch n k := by
  induction n with
  | zero =>
    intro k
    cases k with
    | zero => rfl
    | succ k => rw [ch_succ, ch_zero_succ, ch_zero_succ]; simp
  | succ n ih =>
    intro k
    cases k with
    | zero =>
      have := ih 0
      simp only [ch_zero, ch_succ] at *
      omega
    | succ k =>
      have h1 := ih k
      have h2 := ih (k + 1)
      rw [ch_succ (n + 1) (k + 1), Nat.mul_add, h2]
      rw [show (k + 1 + 1) * ch (n + 1) (k + 1) = (k + 1) * ch (n + 1) (k + 1) + ch (n + 1) (k + 1) from by rw [Nat.add_mul]; simp, h1]
      rw [show (n + 1 + 1) * ch (n + 1) (k + 1) = (n + 1) * ch (n + 1) (k + 1) + ch (n + 1) (k + 1) from by rw [Nat.add_mul]; simp]
      rw [ch_succ n k, Nat.mul_add]; omega
/-- The next number out of this one. -/
theorem ch_next (n k : Nat) (h : k < n) : (n - k) * ch n k = (k + 1) * ch n (k + 1) := by
  obtain ⟨n, rfl⟩ : ∃ m, n = m + 1 := ⟨n - 1, by omega⟩
  rw [ch_step]
  cases k with
  | zero => simp [ch_zero]
  | succ k =>
    have h1 := ch_step n k
    have h2 := ch_step n (k + 1)
    have h3 := ch_succ n (k + 1)
    have h4 := ch_succ n k
    have e : (n + 1 - (k + 1)) * ch (n + 1) (k + 1) + (k + 1) * ch (n + 1) (k + 1) = (n + 1) * ch (n + 1) (k + 1) := by rw [← Nat.add_mul]; congr 1; omega
    rw [h1] at e
    rw [h4, Nat.mul_add (n + 1)] at e
    rw [h4]
    omega
theorem ch_sym (n : Nat) : ∀ k, k ≤ n → ch n (n - k) = ch n k := by
  induction n with
  | zero => intro k h; rw [show k = 0 by omega]
  | succ n ih =>
    intro k h
    cases k with
    | zero => rw [Nat.sub_zero, ch_self, ch_zero]
    | succ k =>
      by_cases e : k = n
      · subst e; rw [Nat.sub_self, ch_zero, ch_self]
      · rw [show n + 1 - (k + 1) = (n - (k + 1)) + 1 from by omega, ch_succ, ch_succ, ih (k + 1) (by omega), show n - (k + 1) + 1 = n - k from by omega, ih k (by omega)]; omega
theorem ch_le (n : Nat) : ∀ k, ch n k ≤ 2 ^ n := by
  induction n with
  | zero => intro k; cases k <;> simp [ch]
  | succ n ih =>
    intro k
    cases k with
    | zero => rw [ch_zero]; exact Nat.pos_of_ne_zero (by simp)
    | succ k => have := ih k; have := ih (k + 1); rw [ch_succ, Nat.pow_succ]; omega
/-- The sum of the numbers of sets of fewer than k things. -/
def chSum (n : Nat) : Nat → Nat
  | 0 => 0
  | k + 1 => chSum n k + ch n k
theorem chSum_succ (n k : Nat) : chSum (n + 1) (k + 1) = chSum n k + chSum n (k + 1) := by
  induction k with
  | zero => simp [chSum, ch_zero]
  | succ k ih => rw [chSum, ih, ch_succ]; simp only [chSum]; omega
theorem chSum_gt (n k : Nat) : chSum n (n + 1 + k) = chSum n (n + 1) := by
  induction k with
  | zero => rfl
  | succ k ih => rw [← Nat.add_assoc, chSum, ih, ch_gt n _ (by omega)]; omega
theorem chSum_all (n : Nat) : chSum n (n + 1) = 2 ^ n := by
  induction n with
  | zero => rfl
  | succ n ih => rw [chSum_succ, ih, chSum_gt n 1, ih, Nat.pow_succ]; omega
theorem chSum_le (n k : Nat) (h : k ≤ n + 1) : chSum n k ≤ 2 ^ n := by
  rw [← chSum_all]
  obtain ⟨d, hd⟩ : ∃ d, n + 1 = k + d := ⟨n + 1 - k, by omega⟩
  rw [hd]; clear hd h
  induction d with
  | zero => exact Nat.le_refl _
  | succ d ih => rw [← Nat.add_assoc, chSum]; omega
end M
end Go.Proofs.YtamniclnhenmgaaDoor
