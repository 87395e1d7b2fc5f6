/- Beside the dice. -/
import Derived.Test.YtjemijjhplajaaaGDice
namespace Go.Proofs.Ytjemijjhplajaaa.RG
open Go Go.RowKit Go.Shelf
open G
theorem below_dice {B : Nat} {w W W' : World} {dp : Nat} (hb : Below B w W) (hg : W.grownBy W' (some dp)) (hB : B ≤ dp) (hs : B ≤ w.heap.size) : Below B w W' :=
  hb.trans ⟨hg.os, hg.tape, hg.output, hg.size, fun k hk => hg.block k (by have := hb.size; omega) (by intro e; cases e; omega)⟩
end Go.Proofs.Ytjemijjhplajaaa.RG
