/- Slices of bools. -/
import Derived.Test.YtijkgplglfmfnaaK5
namespace Go.Proofs.Ytijkgplglfmfnaa.G
open Go Go.RowKit Go.Shelf
open Elt
instance eltB : Elt Bool := { gv := fun x => .bool x, z := false, ty := 4, sl := 43, wide := 1, wide_le := by decide, info := by kernel_rfl, under := Try.underlying43, one := fun _ => rfl, plain := fun _ => rfl }
theorem Row.elB {w : World} {a : Option Addr} {zs : List Bool} {cap : Nat} (h : Row w a zs cap) (j : Nat) (hj : j < zs.length) : ∃ b off, a = some ⟨b, off, none⟩ ∧ w.cell? ⟨b, off + j, none⟩ = some (.bool (G.el zs j)) := h.el j hj
theorem Own.setB {W : World} {B n : Nat} {g cap : Nat} {zs : List Bool} (h : Own W B (.slice (some ⟨g, 0, none⟩) n cap) zs) (j : Nat) (c : Bool) : Own (W.setCell ⟨g, j, none⟩ (.bool c)) B (.slice (some ⟨g, 0, none⟩) n cap) (zs.set j c) := h.set j c
theorem Own.cellB {W : World} {B g cap n : Nat} {zs : List Bool} (h : Own W B (.slice (some ⟨g, 0, none⟩) n cap) zs) (k : Nat) (hk : k < zs.length) : W.cell? ⟨g, k, none⟩ = some (.bool (el zs k)) := (h.at k hk).2.2.2.2.1
end Go.Proofs.Ytijkgplglfmfnaa.G
