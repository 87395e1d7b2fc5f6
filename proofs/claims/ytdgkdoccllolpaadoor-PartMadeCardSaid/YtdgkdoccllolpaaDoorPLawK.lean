/- What the walks of the statements keep: the dice, the shape, the table. -/
import Derived.Test.YtdgkdoccllolpaaDoorPAwake
import Derived.Test.YtdgkdoccllolpaaDoorPPlc
import Derived.Test.YtdgkdoccllolpaaDoorPIxM
namespace Go.Proofs.YtdgkdoccllolpaaDoor.P
open Go Go.RowKit Go.Shelf
open G
theorem below_dice {B : Nat} {w W W' : World} {dp : Nat} (hb : Below B w W) (hg : W.grownBy W' (some dp)) (hB : B ≤ dp) (hs : B ≤ w.heap.size) : Below B w W' :=
  hb.trans ⟨hg.os, hg.tape, hg.output, hg.size, fun k hk => hg.block k (by have := hb.size; omega) (by intro e; cases e; omega)⟩
structure LK (w : World) (dp : Nat) (a : Option Addr) (cap : Nat) (ts : List Int) (p : Nat) (x : Nat → Int) (W : World) : Prop where
  dice : ∃ k, Dice W dp a cap ts k
  shape : Six W p 23 x
  tab : Tab W
  bel : Below w.heap.size w W
  lo : w.heap.size ≤ dp
  ne : p ≠ dp
  net : 0 ≠ dp
section
attribute [local semireducible] Tab
theorem Tab.grown {W W' : World} {dp : Nat} (h : Tab W) (hg : W.grownBy W' (some dp)) (hne : 0 ≠ dp) : Tab W' := fun k j hk hj => cell_grown hg hne (h k j hk hj)
theorem Tab.lt {W : World} (h : Tab W) : 0 < W.heap.size := lt_of_cell (h 0 0 (by decide) (by decide))
end
theorem LK.below {w W W' : World} {dp p : Nat} {a : Option Addr} {cap : Nat} {ts : List Int} {x : Nat → Int} (h : LK w dp a cap ts p x W) (hb : Below W.heap.size W W') : LK w dp a cap ts p x W' :=
  ⟨h.dice.elim fun k hk => ⟨k, hk.below hb⟩, h.shape.below hb, h.tab.below hb, h.bel.trans (hb.mono h.bel.size), h.lo, h.ne, h.net⟩
theorem LK.alloc {w W : World} {dp p : Nat} {a : Option Addr} {cap : Nat} {ts : List Int} {x : Nat → Int} (h : LK w dp a cap ts p x W) (o : Obj) : LK w dp a cap ts p x (W.alloc o) :=
  h.below ((Below.refl _ W).alloc (Nat.le_refl _) o)
theorem LK.grown {w W W' : World} {dp p k : Nat} {a : Option Addr} {cap : Nat} {ts : List Int} {x : Nat → Int} (h : LK w dp a cap ts p x W) (hd : Dice W' dp a cap ts k) (hg : W.grownBy W' (some dp)) : LK w dp a cap ts p x W' :=
  ⟨⟨k, hd⟩, h.shape.grown hg (by intro e; cases e; exact h.ne rfl), h.tab.grown hg h.net, below_dice h.bel hg h.lo (Nat.le_refl _), h.lo, h.ne, h.net⟩
/-- The beginning. -/
theorem LK.start {w w1 w2 : World} {a : Option Addr} {cap k : Nat} {ts : List Int} {x : Nat → Int} (hT : Tab w) (hb : Below w.heap.size w w1) (hl : w.heap.size < w1.heap.size) (hd : Dice w2 w.heap.size a cap ts k) (hg : w1.grownBy w2 (some w.heap.size)) :
    LK w w.heap.size a cap ts w2.heap.size x (w2.alloc (.cells #[.int .i64 (x 0), .int .i64 (x 1), .int .i64 (x 2), .int .i64 (x 3), .int .i64 (x 4), .int .i64 (x 5)] 23)) := by
  have hne : 0 ≠ w.heap.size := Nat.ne_of_lt hT.lt
  have hs := hg.size
  exact ⟨⟨k, hd.alloc _⟩, Six.new w2 _ x, ((hT.below hb).grown hg hne).below ((Below.refl _ w2).alloc (Nat.le_refl _) _), (below_dice hb hg (Nat.le_refl _) (Nat.le_refl _)).alloc (by omega) _, Nat.le_refl _, by omega, hne⟩
/-- Six numbers beside the dice. -/
theorem Six.diced {W W' : World} {q dp : Nat} {t : TypeId} {y : Nat → Int} (h : Six W q t y) (hg : W.grownBy W' (some dp)) (hne : q ≠ dp) : Six W' q t y := h.grown hg (by intro e; cases e; exact hne rfl)
end Go.Proofs.YtdgkdoccllolpaaDoor.P
