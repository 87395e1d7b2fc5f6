/- part.Valid. -/
import Derived.Test.YtfleehlajngkbaaPNum
import Derived.Test.YtfleehlajngkbaaPIdx
namespace Go.Proofs.Ytfleehlajngkbaa.P
open Go Go.RowKit Go.Shelf
open G
set_option maxRecDepth 100000 in
set_option maxHeartbeats 1000000 in
theorem valid_any (x : Nat → Int) (W : World) :
    Calls Try.prog 29 #[.agg #[.int .i64 (x 0), .int .i64 (x 1), .int .i64 (x 2), .int .i64 (x 3), .int .i64 (x 4), .int .i64 (x 5)]] W fun e W' => e = .returned (.bool (okB x)) ∧ Below W.heap.size W W' := by
  have HW := Lib.hid (fun W => widths_any x W)
  go_enter Try.func29, Try.ntmps29
  go_wp2_with fail
  refine (HW.out _).mono ?_
  rintro e w1 ⟨rfl, hb1⟩
  have HB := Lib.hid ((show Below W.heap.size W _ from (Below.refl _ W).alloc (Nat.le_refl _) _).trans (hb1.mono (by simp)))
  clear hb1
  go_wp2_with fail
  go_loopw [3, 8] (fun s i wr => ∃ k : Nat, i = .int .i64 (k : Int) ∧ k ≤ 6 ∧ s = .int .i64 (sm x k) ∧ Hid (Fit x k) ∧ wr = w1) (fun _ i _ => 6 - (intOf i).toNat)
  case atStart => exact ⟨0, rfl, by decide, by rw [sm_zero], Lib.hid (Fit.zero x), rfl⟩
  case round =>
    obtain ⟨k, rfl, hk, rfl, HF, rfl⟩ := hrel
    by_cases hlt : k < 6
    · have hidx := index_num x k hlt
      by_cases h1 : x k < 0
      · have HN := Lib.hid (ok_no hlt (.inl h1))
        go_wp2_with fail
        go_ret
        exact ⟨ret_bool HN.out.symm, HB.out⟩
      · by_cases h2 : 12 < x k
        · have HN := Lib.hid (ok_no hlt (.inr h2))
          go_wp2_with fail
          go_ret
          exact ⟨ret_bool HN.out.symm, HB.out⟩
        · have hw := sm_wrap hlt HF.out h1 h2
          have HF2 := Lib.hid (HF.out.succ h1 h2)
          clear HF
          go_wp2_with fail
          go_round
          case rel => exact ⟨k + 1, by go_num, hlt, by rw [sm_succ], HF2, trivial⟩
          case measure => simp [intOf]; omega
    · obtain rfl : k = 6 := by omega
      have HN := Lib.hid (ok_fit HF.out)
      clear HF
      go_wp2_with fail
      go_ret
      exact ⟨ret_bool HN.out.symm, HB.out⟩
end Go.Proofs.Ytfleehlajngkbaa.P
