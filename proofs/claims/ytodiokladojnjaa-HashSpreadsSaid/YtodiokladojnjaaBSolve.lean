/- bitmat.Solve. -/
import Derived.Test.YtodiokladojnjaaBRank
namespace Go.Proofs.Ytodiokladojnjaa.B
open Go Go.RowKit Go.Shelf
open BM (St)

/-- The right sides are the elements of v. -/
def rhs (v : V) (j : Nat) : V := b1 (BM.bt v j)
/-- A row that has no pivot has the right side 1. -/
def sing (m : Nat) (s : St) : Bool := (List.range m).any (fun j => decide (s.P.length ≤ j) && ((s.r j).toNat == 1))
theorem sing_iff (m : Nat) (s : St) : sing m s = true ↔ ∃ j, s.P.length ≤ j ∧ j < m ∧ (s.r j).toNat = 1 := by
  unfold sing
  rw [List.any_eq_true]
  constructor
  · rintro ⟨j, hj, h⟩
    rw [Bool.and_eq_true, decide_eq_true_eq, beq_iff_eq] at h
    exact ⟨j, h.1, List.mem_range.1 hj, h.2⟩
  · rintro ⟨j, h1, h2, h3⟩
    exact ⟨j, List.mem_range.2 h2, by rw [Bool.and_eq_true, decide_eq_true_eq, beq_iff_eq]; exact ⟨h1, h3⟩⟩
/-- The least solution, of the first k pivots. -/
def lst (r : Nat → V) (P : Nat → Nat) : Nat → V
  | 0 => 0
  | k + 1 => lst r P k ||| r k <<< P k
def solveE (C : Int) (R : List V) (v : V) : Int := if validB C R then (if fitB v R.length then (if sing R.length (sv C.toNat R (rhs v)) then 6 else 0) else 7) else 1
def solveV (C : Int) (R : List V) (v : V) : V := if solveE C R v = 0 then lst (sv C.toNat R (rhs v)).r (el (sv C.toNat R (rhs v)).P) (sv C.toNat R (rhs v)).P.length else 0

theorem step_piv {m c : Nat} {s : St} {K : Nat} (h : ∀ j, j < s.P.length → el s.P j < K) (hc : c < K) : ∀ j, j < (BM.step m c s).P.length → el (BM.step m c s).P j < K := by
  unfold BM.step
  by_cases hp : BM.piv m c s < m
  · rw [if_pos hp]
    intro j hj
    have hj' : j < (s.P ++ [c]).length := hj
    rw [List.length_append] at hj'
    show el (s.P ++ [c]) j < K
    rw [el_append]
    by_cases h1 : j < s.P.length
    · rw [if_pos h1]; exact h j h1
    · rw [if_neg h1]
      simp only [List.length_cons, List.length_nil] at hj'
      rw [show j - s.P.length = 0 by omega]
      exact hc
  · rw [if_neg hp]; exact h
theorem run_piv (m : Nat) (R r : Nat → V) : ∀ C, ∀ j, j < (BM.run m ⟨R, r, []⟩ C).P.length → el (BM.run m ⟨R, r, []⟩ C).P j < C
  | 0, j, hj => by simp [BM.run] at hj
  | C + 1, j, hj => step_piv (K := C + 1) (fun i hi => Nat.lt_succ_of_lt (run_piv m R r C i hi)) (Nat.lt_succ_self C) j hj
theorem sv_piv (C : Nat) (R : List V) (r : Nat → V) : ∀ j, j < (sv C R r).P.length → el (sv C R r).P j < C := run_piv _ _ _ C

def SolveCut (w : World) (D : Nat) (R : List V) (r : Nat → V) (v : Value) (W : World) : Prop :=
  ∃ g gr cr gx cx, v = .pointer (some ⟨g, 0, none⟩) ∧ Sys W (w.heap.size + 1) g R.length D gr cr gx cx (sv D R r) ∧ Below w.heap.size w W
def RhsRel (w2 : World) (n : Nat) (v : V) (i : Value) (W : World) : Prop :=
  ∃ k : Nat, i = .int .i64 (k : Int) ∧ k ≤ n ∧ Own W w2.heap.size (.slice (some ⟨w2.heap.size, 0, none⟩) n n) (tab n (fun j => if j < k then rhs v j else 0)) ∧ Below w2.heap.size w2 W

end Go.Proofs.Ytodiokladojnjaa.B
