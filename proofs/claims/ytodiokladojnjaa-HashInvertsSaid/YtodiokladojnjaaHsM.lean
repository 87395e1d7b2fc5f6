/- Hash, ahead of its stage: how often a value occurs among the first m: plain mathematics. -/
namespace Go.Proofs.Ytodiokladojnjaa.HS

/-- How often v is f i for i < m. -/
def cnt (f : Nat → Nat) (v : Nat) : Nat → Nat
  | 0 => 0
  | m + 1 => cnt f v m + (if f m = v then 1 else 0)
theorem cnt_zero (f : Nat → Nat) (v : Nat) : cnt f v 0 = 0 := rfl
theorem cnt_yes {f : Nat → Nat} {v m : Nat} (h : f m = v) : cnt f v (m + 1) = cnt f v m + 1 := by rw [cnt, if_pos h]
theorem cnt_no {f : Nat → Nat} {v m : Nat} (h : f m ≠ v) : cnt f v (m + 1) = cnt f v m := by rw [cnt, if_neg h, Nat.add_zero]
theorem cnt_le (f : Nat → Nat) (v m : Nat) : cnt f v m ≤ m := by
  induction m with
  | zero => exact Nat.le_refl _
  | succ m ih => rw [cnt]; split <;> omega
theorem cnt_congr {f g : Nat → Nat} {m : Nat} (h : ∀ i, i < m → f i = g i) (v : Nat) : cnt f v m = cnt g v m := by
  induction m with
  | zero => rfl
  | succ m ih => rw [cnt, cnt, ih (fun i hi => h i (by omega)), h m (by omega)]
theorem cnt_none {f : Nat → Nat} {v m : Nat} (h : ∀ i, i < m → f i ≠ v) : cnt f v m = 0 := by
  induction m with
  | zero => rfl
  | succ m ih => rw [cnt_no (h m (by omega)), ih (fun i hi => h i (by omega))]
theorem cnt_once {f : Nat → Nat} {v m i : Nat} (hi : i < m) (hv : f i = v) (hinj : ∀ k, k < m → f k = v → k = i) : cnt f v m = 1 := by
  induction m with
  | zero => omega
  | succ m ih =>
    by_cases e : m = i
    · subst e
      rw [cnt_yes hv, cnt_none (fun k hk hk2 => by have := hinj k (by omega) hk2; omega)]
    · rw [cnt_no (fun h => e (hinj m (by omega) h)), ih (by omega) (fun k hk => hinj k (by omega))]
/-- The sum of the first n. -/
def sum (g : Nat → Nat) : Nat → Nat
  | 0 => 0
  | n + 1 => sum g n + g n
theorem sum_congr {f g : Nat → Nat} {n : Nat} (h : ∀ i, i < n → f i = g i) : sum f n = sum g n := by
  induction n with
  | zero => rfl
  | succ n ih => rw [sum, sum, ih (fun i hi => h i (by omega)), h n (by omega)]
theorem sum_one {n u : Nat} (hu : u < n) (g : Nat → Nat) : sum (fun v => g v + (if u = v then 1 else 0)) n = sum g n + 1 := by
  induction n with
  | zero => omega
  | succ n ih =>
    rw [sum, sum]
    by_cases e : u = n
    · subst e
      rw [if_pos rfl, sum_congr (g := g) (fun i hi => by rw [if_neg (by omega), Nat.add_zero])]; omega
    · rw [if_neg e, ih (by omega)]; omega
theorem sum_zero (n : Nat) : sum (fun _ => 0) n = 0 := by
  induction n with
  | zero => rfl
  | succ n ih => rw [sum, ih]
/-- **The numbers add up.** -/
theorem sum_cnt {f : Nat → Nat} {N m : Nat} (h : ∀ i, i < m → f i < N) : sum (fun v => cnt f v m) N = m := by
  induction m with
  | zero => exact sum_zero N
  | succ m ih =>
    have e := sum_one (h m (by omega)) (fun v => cnt f v m)
    rw [ih (fun i hi => h i (by omega))] at e
    exact e
theorem sum_le_sum {f g : Nat → Nat} {n : Nat} (h : ∀ i, i < n → f i ≤ g i) : sum f n ≤ sum g n := by
  induction n with
  | zero => exact Nat.le_refl _
  | succ n ih => rw [sum, sum]; have := ih (fun i hi => h i (by omega)); have := h n (by omega); omega
theorem cnt_le_one {f : Nat → Nat} {m : Nat} (hinj : ∀ i k, i < m → k < m → f i = f k → i = k) (v : Nat) : cnt f v m ≤ 1 := by
  by_cases h : ∃ i, i < m ∧ f i = v
  · obtain ⟨i, hi, hv⟩ := h
    rw [cnt_once hi hv (fun k hk hk2 => hinj k i hk hi (hk2.trans hv.symm))]
    exact Nat.le_refl _
  · rw [cnt_none (fun i hi hv => h ⟨i, hi, hv⟩)]
    exact Nat.zero_le _
theorem sum_full {g : Nat → Nat} {n : Nat} (h : ∀ i, i < n → g i ≤ 1) (hs : sum g n = n) : ∀ i, i < n → g i = 1 := by
  induction n with
  | zero => intro i hi; omega
  | succ n ih =>
    rw [sum] at hs
    have h1 := sum_le_sum (f := g) (g := fun _ => 1) (n := n) (fun i hi => h i (by omega))
    have h2 : sum (fun _ => 1) n = n := by
      clear ih hs h1 h
      induction n with
      | zero => rfl
      | succ n ih => rw [sum, ih]
    have h3 := h n (by omega)
    intro i hi
    by_cases e : i = n
    · subst e; omega
    · exact ih (fun i hi => h i (by omega)) (by omega) i (by omega)
/-- **Each value occurs once.** -/
theorem cnt_each {f : Nat → Nat} {n : Nat} (hf : ∀ i, i < n → f i < n) (hinj : ∀ i k, i < n → k < n → f i = f k → i = k) : ∀ v, v < n → cnt f v n = 1 :=
  sum_full (fun v _ => cnt_le_one hinj v) (sum_cnt hf)
attribute [irreducible] cnt sum
end Go.Proofs.Ytodiokladojnjaa.HS
