/- bitmat.Kernel. -/
import Derived.Test.YtodiokladojnjaaBSolve
namespace Go.Proofs.Ytodiokladojnjaa.B
open Go Go.RowKit Go.Shelf
open BM (St)

/-- The vectors for the columns that are no pivots, of the j highest columns. -/
def kerL (P : List Nat) (f : Nat → V) (C : Nat) : Nat → List V
  | 0 => []
  | j + 1 => kerL P f C j ++ (if P.contains (C - 1 - j) then [] else [f (C - 1 - j)])
theorem kerL_len (P : List Nat) (f : Nat → V) (C : Nat) : ∀ j, (kerL P f C j).length ≤ j
  | 0 => Nat.le_refl _
  | j + 1 => by
    have := kerL_len P f C j
    unfold kerL
    rw [List.length_append]
    split
    · simp only [List.length_nil]; omega
    · simp only [List.length_cons, List.length_nil]; omega
def kernE (C : Int) (R : List V) : Int := if validB C R then 0 else 1
def balS (s : St) (c : Nat) : V := bal s.R (el s.P) c s.P.length
def kernS (C : Nat) (R : List V) : St := sv C R (fun _ => 0)
def kernL (C : Int) (R : List V) : List V := if validB C R then kerL (kernS C.toNat R).P (balS (kernS C.toNat R)) C.toNat C.toNat else []
def KernCut (w : World) (D : Nat) (R : List V) (v : Value) (W : World) : Prop :=
  ∃ g gr cr gx cx, v = .pointer (some ⟨g, 0, none⟩) ∧ Sys W (w.heap.size + 1) g R.length D gr cr gx cx (kernS D R) ∧ Below w.heap.size w W
def KernRel (w3 : World) (D : Nat) (P : List Nat) (f : Nat → V) (b i : Value) (W : World) : Prop :=
  ∃ (j c' : Nat) (a' : Option Addr), i = .int .i64 ((D : Int) - 1 - (j : Int)) ∧ j ≤ D ∧ b = .slice a' (kerL P f D j).length c' ∧ Own W w3.heap.size (.slice a' (kerL P f D j).length c') (kerL P f D j) ∧ Below w3.heap.size w3 W
/-- The value is a list of vectors that lies from block B on. -/
def ListR (B : Nat) (W : World) (v : Value) (L : List V) : Prop := ∃ a c, v = .slice a L.length c ∧ Row W a L c ∧ ∀ b o, a = some ⟨b, o, none⟩ → B ≤ b

end Go.Proofs.Ytodiokladojnjaa.B
