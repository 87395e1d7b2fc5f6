/- The reference: Valid, Bits, Size. -/
import Derived.Test.YtfleehlajngkbaaPSize
namespace Go.Proofs.Ytfleehlajngkbaa.P
open Go Go.RowKit Go.Shelf
open G
set_option maxRecDepth 100000 in
set_option maxHeartbeats 1000000 in
theorem rvalid_any (x : Nat → Int) (W : World) :
    Calls Try.prog 16 #[.agg #[.int .i64 (x 0), .int .i64 (x 1), .int .i64 (x 2), .int .i64 (x 3), .int .i64 (x 4), .int .i64 (x 5)]] W fun e W' => e = .returned (.bool (okB x)) ∧ Below W.heap.size W W' := by
  have HW := Lib.hid (fun W => bits_any x W)
  go_enter Try.func16, Try.ntmps16
  go_wp2_with fail
  refine (HW.out _).mono ?_
  rintro e w1 ⟨rfl, hb1⟩
  have HB := Lib.hid (below_box hb1 (Nat.le_refl _))
  clear hb1
  obtain ⟨w2, hw2⟩ : ∃ w2, w1.alloc (.cells #[.int .i64 (x 0), .int .i64 (x 1), .int .i64 (x 2), .int .i64 (x 3), .int .i64 (x 4), .int .i64 (x 5)] 49) = w2 := ⟨_, rfl⟩
  have hs := Six.new w1 49 x
  have hb2 := HB.out.trans ((Below.refl _ w1).alloc HB.out.size (.cells #[.int .i64 (x 0), .int .i64 (x 1), .int .i64 (x 2), .int .i64 (x 3), .int .i64 (x 4), .int .i64 (x 5)] 49))
  obtain ⟨p, hp⟩ : ∃ p, w1.heap.size = p := ⟨_, rfl⟩
  rw [hw2, hp] at hs
  rw [hw2] at hb2
  have HS := Lib.hid hs
  have HB2 := Lib.hid hb2
  clear hs hb2 HB
  go_wp2_with fail
  go_loopw [4, 5] (fun s i wr => ∃ k : Nat, i = .int .i64 (k : Int) ∧ k ≤ 6 ∧ s = .int .i64 (sm x k) ∧ Hid (Fit x k) ∧ wr = w2) (fun _ i _ => 6 - (intOf i).toNat)
  case atStart => exact ⟨0, rfl, by decide, by rw [sm_zero], Lib.hid (Fit.zero x), rfl⟩
  case round =>
    obtain ⟨k, rfl, hk, rfl, HF, rfl⟩ := hrel
    by_cases hlt : k < 6
    · have hc := HS.out.at k hlt
      by_cases h1 : x k < 0
      · have HN := Lib.hid (ok_no hlt (.inl h1))
        go_wp2_with fail
        go_ret
        exact ⟨ret_bool HN.out.symm, HB2.out⟩
      · by_cases h2 : 12 < x k
        · have HN := Lib.hid (ok_no hlt (.inr h2))
          go_wp2_with fail
          go_ret
          exact ⟨ret_bool HN.out.symm, HB2.out⟩
        · have hw := sm_wrap hlt HF.out h1 h2
          have HF2 := Lib.hid (HF.out.succ h1 h2)
          clear HF
          go_wp2_with fail
          go_round
          case rel => exact ⟨k + 1, by go_num, hlt, by rw [sm_succ], HF2, trivial⟩
          case measure => simp [intOf]; omega
    · obtain rfl : k = 6 := by omega
      have HN := Lib.hid (ok_fit HF.out)
      clear HF
      go_wp2_with fail
      go_ret
      exact ⟨ret_bool HN.out.symm, HB2.out⟩
end Go.Proofs.Ytfleehlajngkbaa.P
