/- A region that draws its order and whose calls make memory of their own: one walk of the order of the text serves every order. The class of worlds: all that lie over the region's first world (Below). -/
import Derived.BigQuiet
import Derived.Below
namespace Go.Proofs.Ytfleehlajngkbaa
open Go Go.RowKit

/-- A world that lies over u: no block of u's is other than it was. -/
structure Over (u : World) where
  w : World
  h : Below u.heap.size u w
theorem Over.size {u : World} (n : Over u) : u.heap.size ≤ n.w.heap.size := n.h.size
theorem Over.one (u : World) : Nonempty (Over u) := ⟨⟨u, Below.refl _ u⟩⟩

theorem quiet_over {P : Program} {f : FuncId} {args : Array Value} {u : World} {n : Over u} {v : Value}
    (h : Calls P f args n.w fun e w' => e = .returned v ∧ Below n.w.heap.size n.w w') : Calls P f args n.w fun e w'' => e = .returned v ∧ ∃ m : Over u, w'' = m.w :=
  h.mono fun _ w' ⟨he, hb⟩ => ⟨he, ⟨w', n.h.trans (hb.mono n.h.size)⟩, rfl⟩

theorem wp_region_over {P : Program} {id : Nat} {Q : Exit → Act → World → Prop} {a : Act} {w : World} {l : List Oper} (hm : P.follows .mixedOrders = true) (hB : Region.lexB .any l.toArray = true)
    (h : wpQuiet P l.toArray (fun w' => ∃ n : Over w, w' = n.w) (fun a' => ∀ w', (∃ n : Over w, w' = n.w) → Q .normal a' w') l a) : (Code.region id l.toArray true).wp P Q a w :=
  wp_region_quiet (C := fun w' => ∃ n : Over w, w' = n.w) hm hB ⟨⟨_, (Below.refl _ w).drew⟩, rfl⟩ (by simpa using h)
end Go.Proofs.Ytfleehlajngkbaa
