/- law05.awake. -/
import Derived.Test.YtodiokladojnjaaBMath4
namespace Go.Proofs.Ytodiokladojnjaa.B
open Go Go.RowKit Go.Shelf

/-- A slice that is written out. -/
theorem row_two (w : World) (c d : V) (t : TypeId) : Row (w.alloc (.cells #[.int .u64 (c.toNat : Int), .int .u64 (d.toNat : Int)] t)) (some ⟨w.heap.size, 0, none⟩) [c, d] 2 := by
  refine ⟨Nat.le_refl _, by omega, fun j hj => ⟨w.heap.size, 0, rfl, ?_⟩⟩
  have hb : (w.alloc (.cells #[.int .u64 (c.toNat : Int), .int .u64 (d.toNat : Int)] t)).heap[w.heap.size]? = some (.cells #[.int .u64 (c.toNat : Int), .int .u64 (d.toNat : Int)] t) := Array.getElem?_push_size
  rw [cell_of_row _ _ _ _ _ _ hb]
  match j, hj with
  | 0, _ => rfl
  | 1, _ => rfl
theorem row_three (w : World) (c d e : V) (t : TypeId) : Row (w.alloc (.cells #[.int .u64 (c.toNat : Int), .int .u64 (d.toNat : Int), .int .u64 (e.toNat : Int)] t)) (some ⟨w.heap.size, 0, none⟩) [c, d, e] 3 := by
  refine ⟨Nat.le_refl _, by omega, fun j hj => ⟨w.heap.size, 0, rfl, ?_⟩⟩
  have hb : (w.alloc (.cells #[.int .u64 (c.toNat : Int), .int .u64 (d.toNat : Int), .int .u64 (e.toNat : Int)] t)).heap[w.heap.size]? = some (.cells #[.int .u64 (c.toNat : Int), .int .u64 (d.toNat : Int), .int .u64 (e.toNat : Int)] t) := Array.getElem?_push_size
  rw [cell_of_row _ _ _ _ _ _ hb]
  match j, hj with
  | 0, _ => rfl
  | 1, _ => rfl
  | 2, _ => rfl

def aw2 : List V := [3#64, 2#64]
def aw3 : List V := [1#64, 2#64, 3#64]
theorem aw_inv : invE 2 aw2 = 0 ∧ invR 2 aw2 = aw2 ∧ invC 2 aw2 = 2 := by decide +kernel
theorem aw_rank : rankN 2 aw3 = 2 := by decide +kernel

end Go.Proofs.Ytodiokladojnjaa.B
