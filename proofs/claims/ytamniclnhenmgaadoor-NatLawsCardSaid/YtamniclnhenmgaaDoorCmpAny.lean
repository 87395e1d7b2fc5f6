/- nat.Cmp, with the shelf's contract of cmp.Compare. -/
import Derived.Test.YtamniclnhenmgaaDoorShelf
import Derived.Test.YtamniclnhenmgaaDoorCmp
namespace Go.Proofs.YtamniclnhenmgaaDoor
open Go Go.RowKit Go.Shelf

theorem cmp_any (a b : Option Addr) (ca cb x y : Nat) (w : World) (hA : Row w a (M.dig x) ca) (hB : Row w b (M.dig y) cb) :
    Calls Tryd.prog 41 #[.agg #[.slice a (M.dig x).length ca], .agg #[.slice b (M.dig y).length cb]] w fun e W' => e = .returned (.int .i64 (Lib.compareInt (x : Int) (y : Int))) ∧ Below w.heap.size w W' :=
  cmp_of compare_any a b ca cb x y w hA hB

theorem cmp_num {u v : Value} {x y : Nat} {w : World} (hu : Num w u x) (hv : Num w v y) :
    Calls Tryd.prog 41 #[u, v] w fun e W' => e = .returned (.int .i64 (Lib.compareInt (x : Int) (y : Int))) ∧ Below w.heap.size w W' := by
  obtain ⟨a, ca, rfl, ha⟩ := hu
  obtain ⟨b, cb, rfl, hb⟩ := hv
  exact cmp_any a b ca cb x y w ha hb
end Go.Proofs.YtamniclnhenmgaaDoor
