/- The reference: Valid, Bits, Size. -/
import Derived.Test.YtdgkdoccllolpaaDoorPSize
namespace Go.Proofs.YtdgkdoccllolpaaDoor.P
open Go Go.RowKit Go.Shelf
open G
set_option maxRecDepth 100000 in
set_option maxHeartbeats 1000000 in
theorem rvalid_any (x : Nat → Int) (W : World) :
    Calls Tryd.prog 28 #[.agg #[.int .i64 (x 0), .int .i64 (x 1), .int .i64 (x 2), .int .i64 (x 3), .int .i64 (x 4), .int .i64 (x 5)]] W fun e W' => e = .returned (.bool (okB x)) ∧ Below W.heap.size W W' := by
  have HW := Lib.hid (fun W => bits_any x W)
  go_enter Tryd.func28, Tryd.ntmps28
  go_wp2_with fail
  refine (HW.out _).mono ?_
  rintro e w1 ⟨rfl, hb1⟩
  have HB := Lib.hid (below_box hb1 (Nat.le_refl _))
  clear hb1
  obtain ⟨w2, hw2⟩ : ∃ w2, w1.alloc (.cells #[.int .i64 (x 0), .int .i64 (x 1), .int .i64 (x 2), .int .i64 (x 3), .int .i64 (x 4), .int .i64 (x 5)] 61) = w2 := ⟨_, rfl⟩
  have hs := Six.new w1 61 x
  have hb2 := HB.out.trans ((Below.refl _ w1).alloc HB.out.size (.cells #[.int .i64 (x 0), .int .i64 (x 1), .int .i64 (x 2), .int .i64 (x 3), .int .i64 (x 4), .int .i64 (x 5)] 61))
  obtain ⟨p, hp⟩ : ∃ p, w1.heap.size = p := ⟨_, rfl⟩
  rw [hw2, hp] at hs
  rw [hw2] at hb2
  have HS := Lib.hid hs
  have HB2 := Lib.hid hb2
  clear hs hb2 HB
  go_wp2_with fail
  go_loopw [4, 5] (fun s i wr => ∃ k : Nat, i = .int .i64 (k : Int) ∧ k ≤ 6 ∧ s = .int .i64 (sm x k) ∧ Hid (Fit x k) ∧ wr = w2) (fun _ i _ => 6 - (intOf i).toNat)
  case atStart => exact ⟨0, rfl, by decide, by rw [sm_zero], Lib.hid (Fit.zero x), rfl⟩
  case round =>
    obtain ⟨k, rfl, hk, rfl, HF, rfl⟩ := hrel
    by_cases hlt : k < 6
    · have hc := HS.out.at k hlt
      by_cases h1 : x k < 0
      · have HN := Lib.hid (ok_no hlt (.inl h1))
        go_wp2_with fail
        go_ret
        exact ⟨ret_bool HN.out.symm, HB2.out⟩
      · by_cases h2 : 12 < x k
        · have HN := Lib.hid (ok_no hlt (.inr h2))
          go_wp2_with fail
          go_ret
          exact ⟨ret_bool HN.out.symm, HB2.out⟩
        · have hw := sm_wrap hlt HF.out h1 h2
          have HF2 := Lib.hid (HF.out.succ h1 h2)
          clear HF
          go_wp2_with fail
          go_round
          case rel => exact ⟨k + 1, by go_num, hlt, by rw [sm_succ], HF2, trivial⟩
          case measure => simp [intOf]; omega
    · obtain rfl : k = 6 := by omega
      have HN := Lib.hid (ok_fit HF.out)
      clear HF
      go_wp2_with fail
      go_ret
      exact ⟨ret_bool HN.out.symm, HB2.out⟩
set_option maxRecDepth 100000 in
set_option maxHeartbeats 1000000 in
theorem rbits_any (x : Nat → Int) (W : World) (hx : ∀ j, j < 6 → x j = (wd x j : Int) ∧ wd x j ≤ 12) (ht : tm x 6 ≤ 12) :
    Calls Tryd.prog 42 #[.agg #[.int .i64 (x 0), .int .i64 (x 1), .int .i64 (x 2), .int .i64 (x 3), .int .i64 (x 4), .int .i64 (x 5)]] W fun e W' => e = .returned (.int .i64 (tm x 6 : Int)) ∧ Below W.heap.size W W' := by
  have HW := Lib.hid (fun W => bits_any x W)
  have HO := Lib.hid (And.intro hx ht)
  clear hx ht
  go_enter Tryd.func42, Tryd.ntmps42
  go_wp2_with fail
  refine (HW.out _).mono ?_
  rintro e w1 ⟨rfl, hb1⟩
  have HB := Lib.hid (below_box hb1 (Nat.le_refl _))
  clear hb1
  obtain ⟨w2, hw2⟩ : ∃ w2, w1.alloc (.cells #[.int .i64 (x 0), .int .i64 (x 1), .int .i64 (x 2), .int .i64 (x 3), .int .i64 (x 4), .int .i64 (x 5)] 61) = w2 := ⟨_, rfl⟩
  have hs := Six.new w1 61 x
  have hb2 := HB.out.trans ((Below.refl _ w1).alloc HB.out.size (.cells #[.int .i64 (x 0), .int .i64 (x 1), .int .i64 (x 2), .int .i64 (x 3), .int .i64 (x 4), .int .i64 (x 5)] 61))
  obtain ⟨p, hp⟩ : ∃ p, w1.heap.size = p := ⟨_, rfl⟩
  rw [hw2, hp] at hs
  rw [hw2] at hb2
  have HS := Lib.hid hs
  have HB2 := Lib.hid hb2
  clear hs hb2 HB
  go_wp2_with fail
  go_loopw [4, 5] (fun s i wr => ∃ k : Nat, i = .int .i64 (k : Int) ∧ k ≤ 6 ∧ s = .int .i64 (tm x k : Int) ∧ wr = w2) (fun _ i _ => 6 - (intOf i).toNat)
  case atStart => exact ⟨0, rfl, by decide, by rw [tm_zero]; rfl, rfl⟩
  case round =>
    obtain ⟨k, rfl, hk, rfl, rfl⟩ := hrel
    by_cases hlt : k < 6
    · have hc := HS.out.at k hlt
      obtain ⟨hx, hn⟩ := HO.out.1 k hlt
      rw [hx] at hc
      have hm : tm x k ≤ 12 := Nat.le_trans (tm_mono x hk) HO.out.2
      have hw : IntKind.i64.wrap ((tm x k : Int) + (wd x k : Int)) = (tm x k : Int) + (wd x k : Int) := by rw [IntKind.wrap_i64]; omega
      clear hx
      go_wp2_with fail
      go_round
      case rel => exact ⟨k + 1, by go_num, hlt, by rw [tm_succ]; go_num, trivial⟩
      case measure => simp [intOf]; omega
    · obtain rfl : k = 6 := by omega
      go_wp2_with fail
      go_ret
      exact ⟨rfl, HB2.out⟩
set_option maxRecDepth 100000 in
set_option maxHeartbeats 1000000 in
theorem rsize_any (x : Nat → Int) (W : World) :
    Calls Tryd.prog 29 #[.agg #[.int .i64 (x 0), .int .i64 (x 1), .int .i64 (x 2), .int .i64 (x 3), .int .i64 (x 4), .int .i64 (x 5)]] W fun e W' => e = .returned (.int .i64 (szN x : Int)) ∧ Below W.heap.size W W' := by
  have HV := Lib.hid (fun W => rvalid_any x W)
  cases hk : okB x with
  | false =>
    rw [hk] at HV
    rw [sz_no hk]
    clear hk
    go_enter Tryd.func29, Tryd.ntmps29
    go_wp2_with fail
    refine (HV.out _).mono ?_
    rintro e w1 ⟨rfl, hb1⟩
    have HB := Lib.hid (below_box hb1 (Nat.le_refl _))
    clear hb1
    go_wp2_with fail
    go_ret
    exact ⟨rfl, HB.out⟩
  | true =>
    rw [hk] at HV
    rw [sz_yes hk]
    obtain ⟨hx, ht⟩ := ok_yes hk
    have HW := Lib.hid (fun W => rbits_any x W hx ht)
    have hs := shl_one ht
    clear hk hx
    go_enter Tryd.func29, Tryd.ntmps29
    go_wp2_with fail
    refine (HV.out _).mono ?_
    rintro e w1 ⟨rfl, hb1⟩
    obtain ⟨c0, c1, c2, c3, c4, c5⟩ := ((Six.new W 23 x).below hb1).all
    have HB := Lib.hid (below_box hb1 (Nat.le_refl _))
    clear hb1
    go_wp2_with fail
    refine (HW.out _).mono ?_
    rintro e w2 ⟨rfl, hb2⟩
    have HB2 := Lib.hid (HB.out.trans (hb2.mono HB.out.size))
    clear hb2 HB c0 c1 c2 c3 c4 c5
    have hwu : IntKind.u64.wrap (tm x 6 : Int) = (tm x 6 : Int) := by rw [IntKind.wrap_u64]; omega
    go_wp2_with fail
    go_ret
    exact ⟨rfl, HB2.out⟩
end Go.Proofs.YtdgkdoccllolpaaDoor.P
