/- memfaultlaw09.sameInts of equal lists. -/
import Derived.Test.YtdgkdoccllolpaaDoorGInt
import Derived.BigQuiet
namespace Go.Proofs.YtdgkdoccllolpaaDoor.P
open Go Go.RowKit Go.Shelf
open G
set_option maxRecDepth 100000 in
set_option maxHeartbeats 1000000 in
theorem same_any (a b : Option Addr) (ca cb : Nat) (zs : List Nat) (W : World) (h1 : Row W a zs ca) (h2 : Row W b zs cb) :
    Calls Tryd.prog 34 #[.slice a zs.length ca, .slice b zs.length cb] W fun e W' => e = .returned (.bool true) ∧ Below W.heap.size W W' := by
  have HA := Lib.hid h1
  have HB := Lib.hid h2
  clear h1 h2
  go_enter Tryd.func34, Tryd.ntmps34
  go_wp2_with fail
  go_loopw [5] (fun i wr => ∃ k : Nat, i = .int .i64 (k : Int) ∧ k ≤ zs.length ∧ ∃ n, wr = W.drewN n) (fun i _ => zs.length - (intOf i).toNat)
  case atStart => exact ⟨0, rfl, Nat.zero_le _, 0, rfl⟩
  case round =>
    obtain ⟨k, rfl, hk, n, rfl⟩ := hrel
    by_cases hlt : k < zs.length
    · obtain ⟨ba, oa, rfl, hc⟩ := HA.out.elN k hlt
      obtain ⟨bb, ob, rfl, hc2⟩ := HB.out.elN k hlt
      have hca := HA.out.room
      have hcb := HB.out.room
      have hma := HA.out.most
      have hmb := HB.out.most
      go_wp2_with fail
      go_quiet (fail)
      go_wp2_with fail
      go_round
      case rel => exact ⟨k + 1, by go_num, hlt, _, rfl⟩
      case measure => simp [intOf]; omega
    · obtain rfl : k = zs.length := by omega
      go_wp2_with fail
      go_ret
      exact ⟨rfl, belowN (Below.refl _ W) _⟩
end Go.Proofs.YtdgkdoccllolpaaDoor.P
