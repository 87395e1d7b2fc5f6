/- part.Size. -/
import Derived.Test.YtdgkdoccllolpaaDoorPValid
import Derived.Test.YtdgkdoccllolpaaDoorPSix
namespace Go.Proofs.YtdgkdoccllolpaaDoor.P
open Go Go.RowKit Go.Shelf
open G
set_option maxRecDepth 100000 in
set_option maxHeartbeats 1000000 in
theorem size_any (x : Nat → Int) (W : World) :
    Calls Tryd.prog 19 #[.agg #[.int .i64 (x 0), .int .i64 (x 1), .int .i64 (x 2), .int .i64 (x 3), .int .i64 (x 4), .int .i64 (x 5)]] W fun e W' => e = .returned (.int .i64 (szN x : Int)) ∧ Below W.heap.size W W' := by
  have HV := Lib.hid (fun W => valid_any x W)
  have HW := Lib.hid (fun W => widths_any x W)
  cases hk : okB x with
  | false =>
    rw [hk] at HV
    rw [sz_no hk]
    clear hk
    go_enter Tryd.func19, Tryd.ntmps19
    go_wp2_with fail
    refine (HV.out _).mono ?_
    rintro e w1 ⟨rfl, hb1⟩
    have HB := Lib.hid (below_box hb1 (Nat.le_refl _))
    clear hb1
    go_wp2_with fail
    go_ret
    exact ⟨rfl, HB.out⟩
  | true =>
    rw [hk] at HV
    rw [sz_yes hk]
    have HO := Lib.hid (ok_yes hk)
    clear hk
    go_enter Tryd.func19, Tryd.ntmps19
    go_wp2_with fail
    refine (HV.out _).mono ?_
    rintro e w1 ⟨rfl, hb1⟩
    obtain ⟨c0, c1, c2, c3, c4, c5⟩ := ((Six.new W 23 x).below hb1).all
    have HB := Lib.hid (below_box hb1 (Nat.le_refl _))
    clear hb1
    go_wp2_with fail
    refine (HW.out _).mono ?_
    rintro e w2 ⟨rfl, hb2⟩
    have HB2 := Lib.hid (HB.out.trans (hb2.mono HB.out.size))
    clear hb2 HB c0 c1 c2 c3 c4 c5
    go_wp2_with fail
    go_loopw [3, 11] (fun s i wr => ∃ k : Nat, i = .int .i64 (k : Int) ∧ k ≤ 6 ∧ s = .int .i64 (pw (tm x k) : Int) ∧ wr = w2) (fun _ i _ => 6 - (intOf i).toNat)
    case atStart => exact ⟨0, rfl, by decide, by rw [tm_zero, pw_zero]; rfl, rfl⟩
    case round =>
      obtain ⟨k, rfl, hk, rfl, rfl⟩ := hrel
      by_cases hlt : k < 6
      · obtain ⟨hx, hn⟩ := HO.out.1 k hlt
        have hidx := index_num x k hlt
        rw [hx] at hidx
        have hsh := shl_pw (t := tm x k) (n := wd x k) (by rw [← tm_succ]; exact Nat.le_trans (tm_mono x hlt) HO.out.2)
        clear hx
        go_wp2_with fail
        go_round
        case rel => exact ⟨k + 1, by go_num, hlt, by rw [tm_succ], trivial⟩
        case measure => simp [intOf]; omega
      · obtain rfl : k = 6 := by omega
        go_wp2_with fail
        go_ret
        exact ⟨rfl, HB2.out⟩
end Go.Proofs.YtdgkdoccllolpaaDoor.P
