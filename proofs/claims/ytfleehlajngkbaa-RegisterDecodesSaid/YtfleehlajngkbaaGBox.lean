/- A block of memory that is known whole (a struct in a box); a slice that was written out. -/
import Derived.Test.YtfleehlajngkbaaGRow
import Derived.Laws.Rows
import Derived.Laws.Tables
namespace Go.Proofs.Ytfleehlajngkbaa.G
open Go Go.RowKit Go.Shelf
open Elt

/-- Block p holds the cells vs. -/
def Box (W : World) (p : Nat) (t : TypeId) (vs : List Value) : Prop := W.heap[p]? = some (.cells vs.toArray t (0, 0))
section
variable {W : World} {p : Nat} {t : TypeId} {vs : List Value}
theorem Box.cell (h : Box W p t vs) (k : Nat) {v : Value} (hv : vs[k]? = some v) : W.cell? ⟨p, k, none⟩ = some v := by
  rw [cell_of_row _ _ _ _ _ _ h]
  simpa using hv
theorem Box.free (h : Box W p t vs) (k : Nat) : W.frozen? ⟨p, k, none⟩ = false := frozen_of_row _ _ _ _ _ h
theorem Box.lt (h : Box W p t vs) : p < W.heap.size := (Array.getElem?_eq_some_iff.1 h).1
theorem Box.below {W' : World} (h : Box W p t vs) (hb : Below W.heap.size W W') : Box W' p t vs := (hb.block p h.lt).trans h
theorem Box.belowAt {W' : World} {B : Nat} (h : Box W p t vs) (hb : Below B W W') (hp : p < B) : Box W' p t vs := (hb.block p hp).trans h
theorem Box.grown {W' : World} {row : Option Nat} (h : Box W p t vs) (hg : W.grownBy W' row) (hne : some p ≠ row) : Box W' p t vs := (hg.block p h.lt hne).trans h
theorem Box.alloc (h : Box W p t vs) (o : Obj) : Box (W.alloc o) p t vs := h.below ((Below.refl _ W).alloc (Nat.le_refl _) _)
theorem Box.drewN (h : Box W p t vs) (n : Nat) : Box (W.drewN n) p t vs := h
theorem Box.new (w : World) (t : TypeId) (vs : List Value) : Box (w.alloc (.cells vs.toArray t)) w.heap.size t vs := heap_alloc_new _ _
theorem Box.other (h : Box W p t vs) {q : Addr} (hq : q.block ≠ p) (u : Value) : Box (W.setCell q u) p t vs :=
  (heap_setCell_other _ _ _ _ (fun e => hq e.symm)).trans h
theorem Box.set (h : Box W p t vs) (k : Nat) (u : Value) : Box (W.setCell ⟨p, k, none⟩ u) p t (vs.set k u) := by
  unfold Box
  rw [heap_setCell_same _ _ _ _ _ _ h]
  simp
end
/-- A slice that was written out is memory of the call's own. -/
theorem own_list {α : Type} [Elt α] (w : World) (B : Nat) (zs : List α) (h : B ≤ w.heap.size) (hl : zs.length ≤ 1000000) :
    Own (w.alloc (.cells (zs.map gv).toArray (ty α))) B (.slice (some ⟨w.heap.size, 0, none⟩) zs.length zs.length) zs := by
  refine ⟨by simp, .inr ⟨w.heap.size, zs.length, (zs.map gv).toArray, rfl, h, heap_alloc_new w _, Nat.le_refl _, by unfold maxLen; omega, by simp, ?_⟩⟩
  rw [List.take_of_length_le (by simp)]
theorem row_list {α : Type} [Elt α] (w : World) (zs : List α) (t : TypeId) (hl : zs.length ≤ 1000000) :
    Row (w.alloc (.cells (zs.map gv).toArray t)) (some ⟨w.heap.size, 0, none⟩) zs zs.length := by
  refine ⟨Nat.le_refl _, by omega, fun j hj => ⟨w.heap.size, 0, rfl, ?_⟩⟩
  rw [cell_of_row _ _ _ _ _ _ (heap_alloc_new w _), Nat.zero_add]
  simp [List.getElem?_eq_getElem hj, el_lt hj]
end Go.Proofs.Ytfleehlajngkbaa.G
