/- A matrix in a box, with its rows. -/
import Derived.Test.YtodiokladojnjaaBSame
import Derived.Test.YtodiokladojnjaaBMath5
import Derived.Test.YtodiokladojnjaaQuietW
namespace Go.Proofs.Ytodiokladojnjaa.B
open Go Go.RowKit Go.Shelf

/-- A matrix in a box, with its rows. -/
structure BX (W : World) (p : Nat) (C : Int) (R : List V) (a : Option Addr) (c : Nat) : Prop where
  box : MBox W p C a R.length c
  row : Row W a R c
theorem BX.below {W W' : World} {p : Nat} {C : Int} {R : List V} {a : Option Addr} {c : Nat} (h : BX W p C R a c) (hb : Below W.heap.size W W') : BX W' p C R a c := ⟨h.box.below hb, h.row.below hb⟩
theorem BX.new {W : World} {C : Int} {R : List V} {a : Option Addr} {c : Nat} (h : Row W a R c) : BX (W.alloc (.cells #[.int .i64 C, .slice a R.length c] 49)) W.heap.size C R a c := ⟨MBox.new _ _ _ _ _ _, h.alloc _⟩
/-- A box for a matrix that has just been laid. -/
theorem box0 (W : World) : MBox (W.alloc (.cells #[.int .i64 0, .slice none 0 0] 49)) W.heap.size 0 none 0 0 := MBox.new _ _ _ _ _ _

end Go.Proofs.Ytodiokladojnjaa.B
