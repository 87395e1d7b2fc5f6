/- ref05.Kernel. -/
import Derived.Test.YtodiokladojnjaaBRef6
import Derived.Test.YtodiokladojnjaaBKern
namespace Go.Proofs.Ytodiokladojnjaa.B
open Go Go.RowKit Go.Shelf
open BM (bt St)

theorem contains_iff (P : List Nat) (c : Nat) : P.contains c = true ↔ ∃ j, j < P.length ∧ el P j = c := by
  rw [List.contains_eq_mem, decide_eq_true_eq]
  constructor
  · intro h
    obtain ⟨j, hj, e⟩ := List.getElem_of_mem h
    exact ⟨j, hj, by rw [← e]; exact el_lt hj⟩
  · rintro ⟨j, hj, e⟩
    rw [← e]
    exact el_mem hj
/-- One of the first i leading columns is c. -/
def ldg (P : Nat → Nat) (c : Nat) : Nat → Bool
  | 0 => false
  | i + 1 => ldg P c i || decide (P i = c)
theorem ldg_iff (P : Nat → Nat) (c : Nat) : ∀ i, ldg P c i = true ↔ ∃ j, j < i ∧ P j = c
  | 0 => by
    constructor
    · intro h; cases h
    · rintro ⟨j, h, _⟩; exact absurd h (Nat.not_lt_zero j)
  | i + 1 => by
    unfold ldg
    rw [Bool.or_eq_true, ldg_iff P c i, decide_eq_true_eq]
    constructor
    · rintro (⟨j, h1, h2⟩ | h)
      · exact ⟨j, by omega, h2⟩
      · exact ⟨i, Nat.lt_succ_self i, h⟩
    · rintro ⟨j, h1, h2⟩
      by_cases e : j = i
      · subst e; exact .inr h2
      · exact .inl ⟨j, by omega, h2⟩
theorem ldg_contains (P : List Nat) (c : Nat) : P.contains c = ldg (el P) c P.length := by
  rw [Bool.eq_iff_iff, contains_iff, ldg_iff]

end Go.Proofs.Ytodiokladojnjaa.B
