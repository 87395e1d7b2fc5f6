/- Slices of ints from 0 on. -/
import Derived.Test.YtdgkdoccllolpaaDoorGRow
namespace Go.Proofs.YtdgkdoccllolpaaDoor.G
open Go Go.RowKit Go.Shelf
open Elt
instance eltN : Elt Nat := { gv := fun x => .int .i64 (x : Int), z := 0, ty := 3, sl := 31, wide := 8, wide_le := by decide, info := by kernel_rfl, under := Tryd.underlying31, one := fun _ => rfl, plain := fun _ => rfl }
theorem Row.elN {w : World} {a : Option Addr} {zs : List Nat} {cap : Nat} (h : Row w a zs cap) (j : Nat) (hj : j < zs.length) : ∃ b off, a = some ⟨b, off, none⟩ ∧ w.cell? ⟨b, off + j, none⟩ = some (.int .i64 ((G.el zs j : Nat) : Int)) := h.el j hj
theorem Own.setN {W : World} {B n : Nat} {g cap : Nat} {zs : List Nat} (h : Own W B (.slice (some ⟨g, 0, none⟩) n cap) zs) (j : Nat) (c : Nat) : Own (W.setCell ⟨g, j, none⟩ (.int .i64 (c : Int))) B (.slice (some ⟨g, 0, none⟩) n cap) (zs.set j c) := h.set j c
theorem Own.cellN {W : World} {B g cap n : Nat} {zs : List Nat} (h : Own W B (.slice (some ⟨g, 0, none⟩) n cap) zs) (k : Nat) (hk : k < zs.length) : W.cell? ⟨g, k, none⟩ = some (.int .i64 ((el zs k : Nat) : Int)) := (h.at k hk).2.2.2.2.1
end Go.Proofs.YtdgkdoccllolpaaDoor.G
