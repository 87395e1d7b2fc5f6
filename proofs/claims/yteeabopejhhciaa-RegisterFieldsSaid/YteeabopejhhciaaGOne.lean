/- Dice.One. -/
import Derived.Test.YteeabopejhhciaaGDice
namespace Go.Proofs.Yteeabopejhhciaa.G
open Go Go.RowKit Go.Shelf

/-- **Dice.One** -/
theorem one_any (w : World) (dp : Nat) (a : Option Addr) (cap : Nat) (ts : List Int) (k n : Nat) (hn : 0 < n) (hn2 : n ≤ 1000) (hD : Dice w dp a cap ts k) :
    Calls Try.prog 12 #[.pointer (some ⟨dp, 0, none⟩), .int .i64 (n : Int)] w fun e W => ∃ (t : Bool) (k' : Nat), e = .returned (.bool t) ∧ Dice W dp a cap ts k' ∧ w.grownBy W (some dp) := by
  have HNX := Lib.hid (next_any w dp a cap ts k n hn (by omega) hD)
  clear hD
  go_enter Try.func12, Try.ntmps12
  go_wp2_with fail
  refine HNX.out.mono ?_
  rintro e w1 ⟨r, k1, hr, rfl, hd1, hg1⟩
  go_wp2
  go_ret
  exact ⟨_, k1, rfl, hd1, hg1⟩
end Go.Proofs.Yteeabopejhhciaa.G
