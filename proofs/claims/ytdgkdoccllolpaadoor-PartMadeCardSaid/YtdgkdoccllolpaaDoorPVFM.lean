/- Valid faults: mathematics. -/
import Derived.Test.YtdgkdoccllolpaaDoorPCovM
namespace Go.Proofs.YtdgkdoccllolpaaDoor.P
open Go Go.RowKit Go.Shelf
def VF (x : Nat → Int) (chips k : Int) (pl : Nat → Int) (c m v : Int) (h : Bool) : Prop :=
  knB k = true ∧ vpB x pl = true ∧ onlyB k pl = true ∧ 0 ≤ c ∧ c < chips ∧ m ≠ 0 ∧ bits BinOp.andNot IntKind.u8 v m = 0 ∧ (h = true ∨ v = 0)
instance (x : Nat → Int) (chips k : Int) (pl : Nat → Int) (c m v : Int) (h : Bool) : Decidable (VF x chips k pl c m v h) := by unfold VF; infer_instance
def vfB (x : Nat → Int) (chips k : Int) (pl : Nat → Int) (c m v : Int) (h : Bool) : Bool := decide (VF x chips k pl c m v h)
theorem vf_no {x : Nat → Int} {chips k : Int} {pl : Nat → Int} {c m v : Int} {h : Bool}
    (hn : knB k = false ∨ vpB x pl = false ∨ onlyB k pl = false ∨ c < 0 ∨ chips ≤ c ∨ m = 0 ∨ bits BinOp.andNot IntKind.u8 v m ≠ 0 ∨ (h = false ∧ v ≠ 0)) : vfB x chips k pl c m v h = false := by
  unfold vfB
  rw [decide_eq_false_iff_not]
  rintro ⟨h1, h2, h3, h4, h5, h6, h7, h8⟩
  rcases hn with hn | hn | hn | hn | hn | hn | hn | ⟨hn, hm⟩
  · rw [hn] at h1; cases h1
  · rw [hn] at h2; cases h2
  · rw [hn] at h3; cases h3
  · omega
  · omega
  · exact h6 hn
  · exact hn h7
  · rcases h8 with h8 | h8
    · rw [hn] at h8; cases h8
    · exact hm h8
theorem vf_yes {x : Nat → Int} {chips k : Int} {pl : Nat → Int} {c m v : Int} {h : Bool}
    (h1 : knB k = true) (h2 : vpB x pl = true) (h3 : onlyB k pl = true) (h4 : ¬ c < 0) (h5 : ¬ chips ≤ c) (h6 : ¬ m = 0) (h7 : bits BinOp.andNot IntKind.u8 v m = 0) (h8 : h = true ∨ v = 0) : vfB x chips k pl c m v h = true := by
  unfold vfB
  rw [decide_eq_true_iff]
  exact ⟨h1, h2, h3, by omega, by omega, h6, h7, h8⟩
attribute [irreducible] vfB
end Go.Proofs.YtdgkdoccllolpaaDoor.P
