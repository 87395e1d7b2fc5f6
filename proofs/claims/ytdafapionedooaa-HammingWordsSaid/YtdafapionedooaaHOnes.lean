/- math/bits.OnesCount8, by the shelf's contract. -/
import Derived.Shelf.Small.Bits
import Derived.Test.YtdafapionedooaaHMath
namespace Go.Proofs.Ytdafapionedooaa.G.H
open Go Go.RowKit Go.Shelf

def onesRen : Go.Shelf.Ren := ⟨fun | 135 => 30 | n => n, fun | 3 => 3 | 5 => 5 | 9 => 9 | n => n, fun | n => n⟩
theorem onesLays : Go.Proofs.Lays.n135 Try.prog onesRen := {
  mixed := by kernel_rfl
  f135 := Try.func30.trans (congrArg some (by kernel_rfl))
  t3 := Try.underlying3
  a3 := Try.isAgg3
  z3 := Try.sizeOf3
  v3 := Try.zeroValue3
  t5 := Try.underlying5
  a5 := Try.isAgg5
  z5 := Try.sizeOf5
  v5 := Try.zeroValue5
  t9 := Try.underlying9
  a9 := Try.isAgg9
  z9 := Try.sizeOf9
  v9 := Try.zeroValue9 }
theorem ones_any (n : Nat) (h : n < 256) (w : World) :
    Calls Try.prog 30 #[.int .u8 (n : Int)] w fun e w' => e = .returned (.int .i64 (pc n : Int)) ∧ w = w' :=
  (Any.bits_OnesCount8 onesLays (n : Int) w (by omega) (by omega)).mono fun e w' h => ⟨by rw [h.1, pc_eq]; rfl, h.2.symm⟩
end Go.Proofs.Ytdafapionedooaa.G.H
