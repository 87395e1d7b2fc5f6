/- ChanceFewer: the walk. -/
import Derived.Test.YtbhfhekjcnnfeaaDoorB12
namespace Go.Proofs.YtbhfhekjcnnfeaaDoor
open Go Go.RowKit Go.Shelf

namespace C
open G (Box IRow Dice)
theorem below_dice' {B : Nat} {w W W' : World} {dp : Nat} (hb : Below B w W) (hg : W.grownBy W' (some dp)) (hB : B ≤ dp) (hs : B ≤ W.heap.size) : Below B w W' :=
  hb.trans ⟨hg.os, hg.tape, hg.output, hg.size, fun k hk => hg.block k (by omega) (by intro e; cases e; omega)⟩
theorem cmp_le {x y : Nat} (h : x ≤ y) : Lib.compareInt (x : Int) (y : Int) ≤ 0 := by
  unfold Lib.compareInt
  split
  · omega
  · split <;> omega
end C
end Go.Proofs.YtbhfhekjcnnfeaaDoor
